/-
  The walks of isColumn, isOp, lengthen.
-/
import Derived.Test.YtkecpjgpgnfhmaaDoorMem
import Derived.Test.YtkecpjgpgnfhmaaDoorPlain2
namespace Go.Proofs.YtkecpjgpgnfhmaaDoor
open Go.RowKit

def isColI (x : Int) : Bool := x == 77 || (x == 68 || x == 73)
def isOpI (x : Int) : Bool := isColI x || x == 83
theorem eq_nat (c : UInt8) (n : Nat) (h : n < 256) : ((c.toNat : Int) == (n : Int)) = (c == UInt8.ofNat n) := by
  rw [Bool.eq_iff_iff]
  simp only [beq_iff_eq]
  constructor
  · intro e
    apply UInt8.toNat_inj.1
    rw [UInt8.toNat_ofNat', Nat.mod_eq_of_lt h]
    omega
  · rintro rfl
    rw [UInt8.toNat_ofNat', Nat.mod_eq_of_lt h]
theorem isColI_byte (c : UInt8) : isColI (c.toNat : Int) = isColB c := by
  unfold isColI isColB
  rw [show (77 : Int) = ((77 : Nat) : Int) from rfl, show (68 : Int) = ((68 : Nat) : Int) from rfl, show (73 : Int) = ((73 : Nat) : Int) from rfl, eq_nat c 77 (by decide), eq_nat c 68 (by decide), eq_nat c 73 (by decide)]
  rfl
theorem isOpI_byte (c : UInt8) : isOpI (c.toNat : Int) = isOpB c := by
  unfold isOpI isOpB
  rw [isColI_byte, show (83 : Int) = ((83 : Nat) : Int) from rfl, eq_nat c 83 (by decide)]
  rfl
theorem isColumn_calls (x : Int) (w : World) :
    Calls Tryd.prog 23 #[.int .i32 x] w fun e w' => e = .returned (.bool (isColI x)) ∧ w' = w := by
  go_enter Tryd.func23, Tryd.ntmps23
  go_wp2
  all_goals (go_ret; exact ⟨ret_bool (by simp_all [isColI, Bool.or_assoc]), rfl⟩)
theorem isOp_calls (x : Int) (w : World) :
    Calls Tryd.prog 33 #[.int .i32 x] w fun e w' => e = .returned (.bool (isOpI x)) ∧ w' = w := by
  have HN : Hid (isOpI x = (isColI x || x == 83)) := rfl
  have HC : Hid (∀ w, Calls Tryd.prog 23 #[.int .i32 x] w fun e w' => e = .returned (.bool (isColI x)) ∧ w' = w) := fun w => isColumn_calls x w
  generalize isOpI x = O at *
  generalize isColI x = C at *
  go_enter Tryd.func33, Tryd.ntmps33
  go_wp2_with (go_at_call 23; refine (HC.out _).mono ?_; rintro e w' ⟨rfl, rfl⟩)
  all_goals (go_ret; refine ⟨ret_bool ?_, rfl⟩; rw [HN.out]; clear HN HC; simp_all)


/-- What a function that grows an owned row of runs leaves. -/
def Grew (B : Nat) (l : List Rn) (w : World) (e : Ending) (w' : World) : Prop :=
  ∃ v, e = .returned v ∧ w'.ownsRow B 29 2 v l.length (rowCells l) ∧ Below B w w'

theorem below_append {B n : Nat} {e : TypeId} {size : Nat} {v : Value} {xs : List Value} {w w3 : World} (hown : w.ownsRow B e size v n xs) (hB : B ≤ w.heap.size) {o : Obj} (hg : (w.alloc o).grownBy w3 v.ownBlock) : Below B w w3 :=
  Below.grown ((Below.refl _ _).alloc hB o) hg (by simp; omega) (fun j hj => (hown.lt _ hj).1)
theorem grew_append {B n : Nat} {v v' : Value} {l : List Rn} {r : Rn} {w w3 : World} (hown : w.ownsRow B 29 2 v n (rowCells l)) (hB : B ≤ w.heap.size) (hn : l.length = n) {o : Obj}
    (h : w3.ownsRow B 29 2 v' (n + 1) (rowCells l ++ rnCells r)) (hg : (w.alloc o).grownBy w3 v.ownBlock) : Grew B (l ++ [r]) w (.returned v') w3 := by
  refine ⟨v', rfl, ?_, below_append hown hB hg⟩
  rw [rowCells_snoc, List.length_append, hn]
  exact h

set_option maxHeartbeats 1000000 in
theorem lengthen_calls (B : Nat) (v : Value) (l : List Rn) (c : UInt8) (w : World) (hown : w.ownsRow B 29 2 v l.length (rowCells l)) (hB : B ≤ w.heap.size) (hl : l.length ≤ 131074) (hf : ∀ r ∈ l, -1 ≤ r.2 ∧ r.2 ≤ 131074) :
    Calls Tryd.prog 24 #[v, .int .u8 (c.toNat : Int)] w fun e w' => Grew B (lenB l c) w e w' := by
  obtain ⟨i0, hi, hz0, hz1, hz2⟩ := info_parts info29
  rcases List.eq_nil_or_concat l with rfl | ⟨m, r, rfl⟩
  · obtain ⟨ao, cap, rfl⟩ := owned_shape hown
    go_enter Tryd.func24, Tryd.ntmps24
    go_wp2_with (at_builtin; refine wpList_append_own _ rfl _ _ 23 rfl B 29 i0 (.agg #[.int .u8 0, .int .i64 0]) 2 16 Tryd.underlying23 hi hz0 hz1 hz2 rfl (by decide) (.slice ao 0 cap) _ _ rfl (hown.alloc _) ⟨w.heap.size, 0, none⟩ 1 1 (rnCells (c, 1)) rfl rfl (cell_two_new _ _ _ _) (rn_oneCell _) (by unfold maxLen; simp) (by simp) (by simp; omega) ?_; intro v' w3 hown' hgrow3 hnil3)
    go_ret
    exact grew_append hown hB rfl hown' hgrow3
  · rw [List.concat_eq_append] at *
    obtain ⟨g, cap, rfl, hbg, hlc, _, hgs⟩ := owned_some hown (by simp)
    have hr := hf r (by simp)
    have hg1 : (m ++ [r])[m.length]? = some r := by simp
    obtain ⟨k1, k2⟩ := rowCells_get _ _ _ hg1
    obtain ⟨c1, f1⟩ := owned_cells hown _ _ k1
    obtain ⟨c2, f2⟩ := owned_cells hown _ _ k2
    have hll : (m ++ [r]).length = m.length + 1 := by simp
    have hd : decide ((m.length : Int) < 0) = false := by simp
    have HO : Hid (w.ownsRow B 29 2 (.slice (some ⟨g, 0, none⟩) (m ++ [r]).length cap) (m ++ [r]).length (rowCells (m ++ [r]))) := hown
    rw [hll] at hl hlc
    by_cases hc : r.1 = c
    · have HE : Hid (lenB (m ++ [r]) c = m ++ [(c, r.2 + 1)]) := by show _ = _; rw [lenB_snoc, if_pos hc]
      have hne : ((r.1.toNat : Int) != (c.toNat : Int)) = false := by subst hc; simp
      have HS := owned_set hown (m.length * 2 + 1) (.int .i64 (r.2 + 1))
      rw [rowCells_set _ _ _ _ hg1] at HS
      have HS2 : Hid (Grew B (lenB (m ++ [r]) c) w (.returned (.slice (some ⟨g, 0, none⟩) (m.length + 1) cap)) (w.setCell ⟨g, m.length * 2 + 1, none⟩ (.int .i64 (r.2 + 1)))) := by
        refine ⟨_, rfl, ?_, (Below.refl _ _).setCell hbg _⟩
        have e : (m ++ [r]).set m.length (r.1, r.2 + 1) = m ++ [(c, r.2 + 1)] := by subst hc; simp
        rw [e] at HS
        rw [HE.out]
        have el : (m ++ [(c, r.2 + 1)]).length = m.length + 1 := by simp
        rw [el, ← hll]
        exact HS
      rw [hll]
      clear hown hf hc hg1 HS HE HO
      go_enter Tryd.func24, Tryd.ntmps24
      go_wp2
      go_ret
      exact HS2.out
    · have HE : Hid (lenB (m ++ [r]) c = m ++ [r] ++ [(c, 1)]) := by show _ = _; rw [lenB_snoc, if_neg hc]
      have hne : ((r.1.toNat : Int) != (c.toNat : Int)) = true := by
        simp only [bne_iff_ne, ne_eq]
        exact fun e => hc (UInt8.toNat_inj.1 (by omega))
      rw [hll]
      clear hown hf hc hg1
      go_enter Tryd.func24, Tryd.ntmps24
      go_wp2_with (at_builtin; refine wpList_append_own _ rfl _ _ 23 rfl B 29 i0 (.agg #[.int .u8 0, .int .i64 0]) 2 16 Tryd.underlying23 hi hz0 hz1 hz2 rfl (by decide) (.slice (some ⟨g, 0, none⟩) (m ++ [r]).length cap) _ _ (by rw [hll]; rfl) (HO.out.alloc _) ⟨w.heap.size, 0, none⟩ 1 1 (rnCells (c, 1)) rfl rfl (cell_two_new _ _ _ _) (rn_oneCell _) (by unfold maxLen; rw [hll]; omega) (by rw [hll]; omega) (by simp; omega) ?_; intro v' w3 hown' hgrow3 hnil3)
      go_ret
      rw [HE.out]
      exact grew_append HO.out hB rfl hown' hgrow3
end Go.Proofs.YtkecpjgpgnfhmaaDoor
