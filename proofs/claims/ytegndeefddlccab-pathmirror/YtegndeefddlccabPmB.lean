/-
  Rows and columns exchanged: what a path is worth (plain).
-/
import Derived.Test.YtegndeefddlccabPmA
namespace Go.Proofs.Ytegndeefddlccab
open Go.RowKit

theorem mir_end {m : Md} (hm : m.mode = 1) (nx ny : Nat) (i j : Int) : endB (mirM m) ny nx j i = endB m nx ny i j := by
  unfold endB
  rw [show (mirM m).mode = m.mode from rfl, if_pos hm, if_pos hm, Bool.eq_iff_iff]
  simp [and_comm]
theorem mir_steps {m : Md} (hm : m.mode = 1) (nx ny : Nat) : ∀ (cols : List UInt8) (i j : Int), stepsB (mirM m) ny nx j i (cols.map mirC) = stepsB m nx ny i j cols := by
  intro cols
  induction cols with
  | nil => intro i j; exact mir_end hm nx ny i j
  | cons c cs ih =>
    intro i j
    show stepsB (mirM m) ny nx j i (mirC c :: cs.map mirC) = _
    simp only [stepsB]
    rw [mir_go, mir_dn, mir_ov, mir_has, ih]
theorem mir_allows {m : Md} (hm : m.mode = 1) (nx ny : Nat) (cols : List UInt8) : allowsB (mirM m) ny nx ⟨0, 0, cols.map mirC⟩ = allowsB m nx ny ⟨0, 0, cols⟩ := by
  unfold allowsB
  show ((hasB (mirM m) ny nx 0 0 && beginB (mirM m) 0 0) && stepsB (mirM m) ny nx 0 0 (cols.map mirC)) = _
  rw [mir_has, mir_steps hm]
  rfl
theorem mir_sub {m : Md} {xs ys : List Int} (hx : lettersB m.letters xs = true) (hy : lettersB m.letters ys = true) {i j : Int} (hi : 0 < i ∧ i ≤ xs.length) (hj : 0 < j ∧ j ≤ ys.length) :
    subB (mirM m) ys xs j i = subB m xs ys i j := by
  have h1 := lettersB_get hx (i - 1).toNat (by omega)
  have h2 := lettersB_get hy (j - 1).toNat (by omega)
  unfold subB
  show (mirS m.letters.toNat m.subst).getD (ys.getD (j - 1).toNat 0 * m.letters + xs.getD (i - 1).toNat 0).toNat 0 = _
  generalize xs.getD (i - 1).toNat 0 = xv at *
  generalize ys.getD (j - 1).toNat 0 = yv at *
  obtain ⟨L, hL⟩ := Int.eq_ofNat_of_zero_le (show 0 ≤ m.letters by omega)
  obtain ⟨a, rfl⟩ := Int.eq_ofNat_of_zero_le h1.1
  obtain ⟨b, rfl⟩ := Int.eq_ofNat_of_zero_le h2.1
  rw [hL] at h1 h2 ⊢
  have ha : a < L := by omega
  have hb : b < L := by omega
  rw [show ((b : Int) * (L : Int) + (a : Int)).toNat = b * L + a by rw [← Int.natCast_mul, ← Int.natCast_add, Int.toNat_natCast], show ((a : Int) * (L : Int) + (b : Int)).toNat = a * L + b by rw [← Int.natCast_mul, ← Int.natCast_add, Int.toNat_natCast], Int.toNat_natCast]
  have hlt : b * L + a < L * L := by
    have : (b + 1) * L ≤ L * L := Nat.mul_le_mul_right L hb
    rw [Nat.add_mul] at this
    omega
  have hm : (b * L + a) % L = a := by rw [Nat.mul_comm, Nat.mul_add_mod, Nat.mod_eq_of_lt ha]
  have hd : (b * L + a) / L = b := by rw [Nat.mul_comm, Nat.mul_add_div (by omega), Nat.div_eq_of_lt ha, Nat.add_zero]
  unfold mirS
  rw [List.getD, List.getElem?_map, List.getElem?_range hlt]
  show m.subst.getD ((b * L + a) % L * L + (b * L + a) / L) 0 = _
  rw [hm, hd]
theorem mir_wGo {m : Md} {xs ys : List Int} (hx : lettersB m.letters xs = true) (hy : lettersB m.letters ys = true) : ∀ (cols : List UInt8) (i j s g : Int), hasB m xs.length ys.length i j = true → stepsB m xs.length ys.length i j cols = true →
    ∃ S I J, wGo m xs ys i j s g cols = (S, J) ∧ wGo (mirM m) ys xs j i s g (cols.map mirC) = (S, I) ∧ endB m xs.length ys.length I J = true := by
  intro cols
  induction cols with
  | nil => intro i j s g _ hs; exact ⟨s, i, j, rfl, rfl, hs⟩
  | cons c cs ih =>
    intro i j s g hh hs
    have hc0 := hasB_cells hh
    simp only [stepsB, Bool.and_eq_true] at hs
    obtain ⟨⟨hgo, hhas⟩, hst⟩ := hs
    have hc := hasB_cells hhas
    show ∃ S I J, wGo m xs ys i j s g (c :: cs) = (S, J) ∧ wGo (mirM m) ys xs j i s g (mirC c :: cs.map mirC) = (S, I) ∧ _
    simp only [wGo]
    rw [mir_dn, mir_ov, show (mirM m).gaps = m.gaps from rfl]
    by_cases h77 : c = 77
    · have h77' := (mir_c77 c).2 h77
      rw [if_pos h77, if_pos h77']
      have hd : dnB c = 1 := by rw [h77]; rfl
      have ho : ovB c = 1 := by rw [h77]; rfl
      rw [hd, ho] at hhas hst hc ⊢
      rw [mir_sub hx hy (by omega) (by omega)]
      exact ih _ _ _ _ hhas hst
    · have h77' : ¬ mirC c = 77 := fun e => h77 ((mir_c77 c).1 e)
      rw [if_neg h77, if_neg h77']
      have hhd : (cs.map mirC).head? = some (mirC c) ↔ cs.head? = some c := by
        cases cs with
        | nil => simp
        | cons d ds => simp [mir_inj]
      by_cases hq : cs.head? = some c
      · rw [if_pos hq, if_pos (hhd.2 hq)]
        exact ih _ _ _ _ hhas hst
      · rw [if_neg hq, if_neg (fun e => hq (hhd.1 e))]
        exact ih _ _ _ _ hhas hst
theorem mir_worth {m : Md} {xs ys : List Int} {cols : List UInt8} (hm : m.mode = 1) (hx : lettersB m.letters xs = true) (hy : lettersB m.letters ys = true) (hal : allowsB m xs.length ys.length ⟨0, 0, cols⟩ = true) :
    worthW (mirM m) ys xs ⟨0, 0, cols.map mirC⟩ = worthW m xs ys ⟨0, 0, cols⟩ := by
  unfold allowsB at hal
  simp only [Bool.and_eq_true] at hal
  obtain ⟨⟨hh, _⟩, hs⟩ := hal
  obtain ⟨S, I, J, h1, h2, h3⟩ := mir_wGo hx hy cols 0 0 0 0 hh hs
  unfold endB at h3
  rw [if_pos hm] at h3
  have h4 := of_decide_eq_true h3
  unfold worthW
  simp only [show ¬ ((0 : Int) < 0) by omega, if_false, h1, h2, h4.1, h4.2, Int.lt_irrefl]
theorem mir_score {m : Md} {xs ys : List Int} {cols : List UInt8} (h : m.subst.length = m.letters.toNat * m.letters.toNat) (hm : m.mode = 1) : scE (mirM m) ys xs ⟨0, 0, cols.map mirC⟩ = scE m xs ys ⟨0, 0, cols⟩ ∧ scV (mirM m) ys xs ⟨0, 0, cols.map mirC⟩ = scV m xs ys ⟨0, 0, cols⟩ := by
  have e : scE (mirM m) ys xs ⟨0, 0, cols.map mirC⟩ = scE m xs ys ⟨0, 0, cols⟩ := by
    unfold scE
    rw [mir_ref h, mir_allows hm]
  refine ⟨e, ?_⟩
  by_cases hr : refE m xs ys = 0
  · cases ha : allowsB m xs.length ys.length ⟨0, 0, cols⟩
    · rw [(sc_no hr ha).2, (sc_no (by rw [mir_ref h]; exact hr) (by rw [mir_allows hm]; exact ha)).2]
    · rw [(sc_yes hr ha).2, (sc_yes (by rw [mir_ref h]; exact hr) (by rw [mir_allows hm]; exact ha)).2]
      have ho := refE_ok hr
      exact mir_worth hm ho.2.1 ho.2.2 ha
  · rw [(sc_err hr).2, (sc_err (by rw [mir_ref h]; exact hr)).2]

end Go.Proofs.Ytegndeefddlccab
