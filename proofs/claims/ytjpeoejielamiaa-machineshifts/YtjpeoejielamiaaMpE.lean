/-
  No number leaves the machine's.
-/
import Derived.Test.YtjpeoejielamiaaKc
namespace Go.Proofs.Ytjpeoejielamiaa
open Go.RowKit

def bnd (B z : Int) : Prop := -B ≤ z ∧ z ≤ B
theorem bnd_zero {B : Int} (h : 0 ≤ B) : bnd B 0 := ⟨by omega, h⟩
theorem bnd_mono {B B' z : Int} (h : bnd B z) (hb : B ≤ B') : bnd B' z := ⟨by have := h.1; omega, by have := h.2; omega⟩
theorem wrap_in {z : Int} (h : bnd 4611686018427387904 z) : wrap64 z = z := by
  unfold bnd at h; unfold wrap64; omega
/-- The greatest constant, and the greatest sum of constants in a cell. -/
structure Lm (c : Cd) (K T : Int) : Prop where
  k0 : 0 ≤ K
  t1 : 1 ≤ T
  all : (2 * c.most + 2) * (T * K) ≤ 4611686018427387904
  table : ∀ k, bnd K (c.table.getD k 0)
  consts : ∀ k, bnd K (c.consts.getD k 0)
  top : (goP c (st0 0) 0 c.cell).2.top ≤ T
theorem getD_all {l : List Int} {K : Int} (h : ∀ z ∈ l, bnd K z) (h0 : 0 ≤ K) (k : Nat) : bnd K (l.getD k 0) := by
  rw [List.getD]
  cases e : l[k]? with
  | none => exact bnd_zero h0
  | some z => exact h z (List.mem_of_getElem? e)
theorem Gk.lm {c : Cd} (h : Gk c) : ∃ K T, Lm c K T := by
  obtain ⟨T, hT⟩ : ∃ T, max (goP c (st0 0) 0 c.cell).2.top 1 = T := ⟨_, rfl⟩
  obtain ⟨m, hm⟩ : ∃ m, 2 * c.most + 2 = m := ⟨_, rfl⟩
  have hm1 : 2 ≤ m := by have := h.rt.most; omega
  obtain ⟨q, hq⟩ : ∃ q, (4611686018427387904 : Int) / m = q := ⟨_, rfl⟩
  obtain ⟨K, hK⟩ : ∃ K, q / T = K := ⟨_, rfl⟩
  have ht1 : 1 ≤ T := by omega
  have hq0 : 0 ≤ q := by rw [← hq]; exact Int.ediv_nonneg (by omega) (by omega)
  have hk0 : 0 ≤ K := by rw [← hK]; exact Int.ediv_nonneg hq0 (by omega)
  have hKm : mostB c (goP c (st0 0) 0 c.cell).2.top = K := by unfold mostB; rw [hm, hq, hT, hK]
  have hw := h.wid
  unfold widB at hw
  rw [hKm] at hw
  simp only [Bool.or_eq_false_iff, Bool.not_eq_false', allB, List.all_eq_true, inB_iff] at hw
  refine ⟨K, T, hk0, ht1, ?_, getD_all hw.1 hk0, getD_all hw.2 hk0, by omega⟩
  rw [hm]
  have h1 : T * K ≤ q := by
    rw [← hK, Int.mul_comm]; exact Int.ediv_mul_le q (by omega)
  have h2 : m * (T * K) ≤ m * q := Int.mul_le_mul_of_nonneg_left h1 (by omega)
  have h3 : m * q ≤ 4611686018427387904 := by rw [← hq, Int.mul_comm]; exact Int.ediv_mul_le _ (by omega)
  omega
theorem Lm.d0 {c : Cd} {K T : Int} (h : Lm c K T) : 0 ≤ T * K := Int.mul_nonneg (by have := h.t1; omega) h.k0
/-- Weights stay below. -/
theorem Lm.le {c : Cd} {K T : Int} (h : Lm c K T) {x : Int} (hx : x ≤ T) : x * K ≤ T * K := Int.mul_le_mul_of_nonneg_right hx h.k0
theorem Lm.cell {c : Cd} {K T : Int} (h : Lm c K T) {n : Int} (hn : 0 ≤ n ∧ n + 1 ≤ 2 * c.most + 2) : n * (T * K) + T * K ≤ 4611686018427387904 ∧ 0 ≤ n * (T * K) := by
  have h1 := h.d0
  have h2 : (n + 1) * (T * K) ≤ (2 * c.most + 2) * (T * K) := Int.mul_le_mul_of_nonneg_right hn.2 h1
  rw [Int.add_mul n 1, Int.one_mul] at h2
  have h3 : 0 ≤ n * (T * K) := Int.mul_nonneg hn.1 h1
  have := h.all
  omega
/-- Numbers within a cell: B is what stands behind it. -/
structure CellB (c : Cd) (K T B : Int) (Y : Nat) (F : Nat → Ct) (i j : Nat) (S : St) (M : Ms) : Prop where
  regs : ∀ r, (S.regs r).wr = true → (0 ≤ (S.regs r).weight ∧ (S.regs r).weight ≤ S.top) ∧ bnd (B + (S.regs r).weight * K) (M.regs r).num
  pl : ∀ p, p < c.planes.toNat → (S.pl p).1 = true → (0 ≤ (S.pl p).2 ∧ (S.pl p).2 ≤ S.top) ∧ bnd (B + (S.pl p).2 * K) (M.slots (placeB c.planes.toNat Y p i j)).num
  frame : ∀ k, (∀ p, p < c.planes.toNat → k ≠ placeB c.planes.toNat Y p i j) → M.slots k = F k
  ends : bnd 4611686018427387904 M.ends.score
theorem top_mono (S : St) (q : Qd) : S.top ≤ (pastP S q).top := by
  unfold pastP
  split
  · show S.top ≤ max S.top _; omega
  split
  · show S.top ≤ max S.top _; omega
  split
  · show S.top ≤ max S.top _; omega
  split
  · show S.top ≤ max S.top _; omega
  split
  · exact Int.le_refl _
  split
  · exact Int.le_refl _
  · show S.top ≤ max S.top _; omega
theorem metC_num (a b : Ct) (r : Int) : (metC a b r).num = a.num ∨ (metC a b r).num = b.num := by
  unfold metC
  split
  · exact Or.inl rfl
  split
  · exact Or.inr rfl
  split
  · exact Or.inl rfl
  · exact Or.inl rfl
theorem endB_score (e : En) (p : Nat) (i j n : Int) : (endB e p i j n).score = e.score ∨ (endB e p i j n).score = n := by
  unfold endB
  by_cases h : (!e.found || decide (e.score < n)) = true
  · simp only [if_pos h]; split <;> exact Or.inr rfl
  · simp only [if_neg h]; split <;> exact Or.inl rfl
/-- The cell one step back has no more than B. -/
def backB2 (c : Cd) (B : Int) (X Y : Nat) (F : Nat → Ct) (i j : Nat) : Prop := ∀ (p s : Int), 1 ≤ s ∧ s ≤ 3 → bnd B (atB c.planes.toNat X Y F p ((i : Int) - (backB s).1) ((j : Int) - (backB s).2)).num
theorem CellB.act {c : Cd} (hg : Gk c) {K T B : Int} (hl : Lm c K T) {x y : List Int} {F : Nat → Ct} {i j : Nat} (hi : i ≤ x.length) (hj : j ≤ y.length) (hB : 0 ≤ B ∧ B + T * K ≤ 4611686018427387904) (hbk : backB2 c B x.length y.length F i j) {S : St} {M : Ms} {q : Qd} (hq : q ∈ c.cell) (he : errB c S q = 0) (hT : (pastP S q).top ≤ T) (h : CellB c K T B y.length F i j S M) :
    CellB c K T B y.length F i j (pastP S q) (actB c x y i j M q) := by
  obtain ⟨e1, e2, e3, e4⟩ := err_0 he
  have hn := hg.nam hq
  have htm := top_mono S q
  have hk0 := hl.k0
  have hfr : ∀ k, (∀ p, p < c.planes.toNat → k ≠ placeB c.planes.toNat y.length p i j) → (actB c x y i j M q).slots k = F k := fun k hk => (act_frame c x y i j M q (hg.keepP q hq) k hk).trans (h.frame k hk)
  -- registers that are not written keep what they have
  have hregs : ∀ (k : Nat) (a : Rg) (v : Ct) (t : Int), S.top ≤ t → (a.wr = true → (0 ≤ a.weight ∧ a.weight ≤ t) ∧ bnd (B + a.weight * K) v.num) → ∀ r, (updR S.regs k a r).wr = true → (0 ≤ (updR S.regs k a r).weight ∧ (updR S.regs k a r).weight ≤ t) ∧ bnd (B + (updR S.regs k a r).weight * K) (updC M.regs k v r).num := by
    intro k a v t ht ha r
    unfold updR updC
    by_cases e : r = k
    · rw [if_pos e, if_pos e]; exact ha
    · rw [if_neg e, if_neg e]; intro hw; have := h.regs r hw; exact ⟨⟨this.1.1, by have := this.1.2; omega⟩, this.2⟩
  have hpl : ∀ (t : Int), S.top ≤ t → ∀ p, p < c.planes.toNat → (S.pl p).1 = true → (0 ≤ (S.pl p).2 ∧ (S.pl p).2 ≤ t) ∧ bnd (B + (S.pl p).2 * K) (M.slots (placeB c.planes.toNat y.length p i j)).num := fun t ht p hp hw => by
    have := h.pl p hp hw; exact ⟨⟨this.1.1, by have := this.1.2; omega⟩, this.2⟩
  by_cases h1 : q.1 = 1
  · refine ⟨?_, ?_, hfr, ?_⟩
    · simp only [pastP, actB, h1] at htm ⊢
      exact hregs _ _ _ _ htm fun _ => ⟨⟨Int.le_refl (0 : Int), show (0 : Int) ≤ max S.top 0 by omega⟩, by show bnd (B + 0 * K) 0; rw [Int.zero_mul]; exact bnd_zero (by omega)⟩
    · simp only [pastP, actB, h1] at htm ⊢
      exact hpl _ htm
    · simp only [actB, h1]; exact h.ends
  by_cases h2 : q.1 = 2
  · refine ⟨?_, ?_, hfr, ?_⟩
    · simp only [pastP, actB, h2] at htm ⊢
      refine hregs _ _ _ _ htm fun _ => ⟨⟨show (0 : Int) ≤ 1 by decide, show (1 : Int) ≤ max S.top 1 by omega⟩, ?_⟩
      show bnd (B + 1 * K) _
      rw [Int.one_mul]
      split
      · exact bnd_mono (hl.consts _) (by omega)
      · exact bnd_zero (by omega)
    · simp only [pastP, actB, h2] at htm ⊢
      exact hpl _ htm
    · simp only [actB, h2]; exact h.ends
  by_cases h3 : q.1 = 3
  · refine ⟨?_, ?_, hfr, ?_⟩
    · simp only [pastP, actB, h3] at htm ⊢
      by_cases h0 : q.2.2.2 = 0
      · have hw : (S.pl q.2.2.1.toNat).1 = true := by
          simp only [rdB, h3, h0] at e2; simpa using e2
        have hpp : q.2.2.1.toNat < c.planes.toNat := by
          have h5 := hn.2.2.1
          rw [h3] at h5
          have e : (limB c 3).2.1 = c.planes := rfl
          rw [e] at h5; have := hg.rt.planes; omega
        have hp := h.pl _ hpp hw
        have hq0 : (q.2.2.1.toNat : Int) = q.2.2.1 := by have := hn.2.2.1.1; omega
        have hb0 : backB 0 = (0, 0) := rfl
        refine hregs _ _ _ _ htm fun _ => ?_
        unfold loadB
        rw [if_pos h0]
        refine ⟨⟨hp.1.1, show (S.pl q.2.2.1.toNat).2 ≤ max S.top _ by have := hp.1.2; omega⟩, ?_⟩
        show bnd (B + (S.pl q.2.2.1.toNat).2 * K) (atB c.planes.toNat x.length y.length M.slots q.2.2.1 ((i : Int) - (backB q.2.2.2).1) ((j : Int) - (backB q.2.2.2).2)).num
        rw [h0, hb0, Int.sub_zero, Int.sub_zero, ← hq0, atB_in hpp hi hj]
        exact hp.2
      · have hs : 1 ≤ q.2.2.2 ∧ q.2.2.2 ≤ 3 := by
          have := hn.2.2.2
          rw [h3] at this
          have e : (limB c 3).2.2 = 4 := rfl
          rw [e] at this
          omega
        refine hregs _ _ _ _ htm fun _ => ?_
        unfold loadB
        rw [if_neg h0]
        refine ⟨⟨Int.le_refl (0 : Int), show (0 : Int) ≤ max S.top 0 by omega⟩, ?_⟩
        show bnd (B + 0 * K) (atB c.planes.toNat x.length y.length M.slots q.2.2.1 ((i : Int) - (backB q.2.2.2).1) ((j : Int) - (backB q.2.2.2).2)).num
        have HO := at_other (X := x.length) hj h.frame q.2.2.1 ((i : Int) - (backB q.2.2.2).1) ((j : Int) - (backB q.2.2.2).2) (by have := back_lex hs; omega)
        rw [HO, Int.zero_mul, Int.add_zero]
        exact hbk _ _ hs
    · simp only [pastP, actB, h3] at htm ⊢
      exact hpl _ htm
    · simp only [actB, h3]; exact h.ends
  by_cases h45 : q.1 = 4 ∨ q.1 = 5
  · have hwr : (S.regs q.2.1.toNat).wr = true := by
      rcases h45 with e | e <;> (simp only [rdB, e] at e2; simpa using e2)
    have hR := h.regs _ hwr
    have hp : pastP S q = weighP (setR S q.2.1.toNat (addB (S.regs q.2.1.toNat))) ((S.regs q.2.1.toNat).weight + 1) := by
      unfold pastP; rw [if_neg h1, if_neg h2, if_neg h3, if_pos h45]
    rw [hp] at htm hT ⊢
    have htop : (weighP (setR S q.2.1.toNat (addB (S.regs q.2.1.toNat))) ((S.regs q.2.1.toNat).weight + 1)).top = max S.top ((S.regs q.2.1.toNat).weight + 1) := rfl
    rw [htop] at htm hT
    have hwT := hl.le (x := (S.regs q.2.1.toNat).weight + 1) (by omega)
    have hmul : ((S.regs q.2.1.toNat).weight + 1) * K = (S.regs q.2.1.toNat).weight * K + K := by rw [Int.add_mul, Int.one_mul]
    have hsum : ∀ k, bnd K k → bnd (B + ((S.regs q.2.1.toNat).weight + 1) * K) (wrap64 ((M.regs q.2.1.toNat).num + k)) := fun k hk => by
      have h5 := hR.2
      unfold bnd at h5 hk
      rw [wrap_in (by unfold bnd; omega)]
      unfold bnd; omega
    have hkeep : bnd (B + ((S.regs q.2.1.toNat).weight + 1) * K) (M.regs q.2.1.toNat).num := bnd_mono hR.2 (by omega)
    have hset : ∀ (hb : Bool) (m n : Int), bnd (B + ((S.regs q.2.1.toNat).weight + 1) * K) n → ∀ r, (updR S.regs q.2.1.toNat (addB (S.regs q.2.1.toNat)) r).wr = true → (0 ≤ (updR S.regs q.2.1.toNat (addB (S.regs q.2.1.toNat)) r).weight ∧ (updR S.regs q.2.1.toNat (addB (S.regs q.2.1.toNat)) r).weight ≤ max S.top ((S.regs q.2.1.toNat).weight + 1)) ∧ bnd (B + (updR S.regs q.2.1.toNat (addB (S.regs q.2.1.toNat)) r).weight * K) (updC M.regs q.2.1.toNat ⟨hb, m, n⟩ r).num := fun hb m n hnn =>
      hregs _ _ _ _ (by omega) fun _ => ⟨⟨show 0 ≤ (S.regs q.2.1.toNat).weight + 1 by have := hR.1.1; omega, show (S.regs q.2.1.toNat).weight + 1 ≤ max S.top ((S.regs q.2.1.toNat).weight + 1) by omega⟩, hnn⟩
    have hid := hset (M.regs q.2.1.toNat).has (M.regs q.2.1.toNat).mask (M.regs q.2.1.toNat).num hkeep
    have hself : updC M.regs q.2.1.toNat ⟨(M.regs q.2.1.toNat).has, (M.regs q.2.1.toNat).mask, (M.regs q.2.1.toNat).num⟩ = M.regs := by
      funext t; unfold updC; split
      · rename_i e; rw [e]
      · rfl
    rw [hself] at hid
    refine ⟨?_, ?_, hfr, ?_⟩
    · rcases h45 with e | e
      · simp only [actB, e]
        show ∀ r, _ → _ ∧ bnd _ ((if (M.regs q.2.1.toNat).has then _ else M.regs : Nat → Ct) r).num
        split
        · exact hset _ _ _ (hsum _ (hl.consts _))
        · exact hid
      · have e0 : actB c x y i j M q = if i = 0 ∨ j = 0 then { M with regs := updC M.regs q.2.1.toNat ⟨false, (M.regs q.2.1.toNat).mask, 0⟩ } else { M with regs := if (M.regs q.2.1.toNat).has then updC M.regs q.2.1.toNat ⟨(M.regs q.2.1.toNat).has, (M.regs q.2.1.toNat).mask, wrap64 ((M.regs q.2.1.toNat).num + c.table.getD (x.getD (i - 1) 0 * c.letters + y.getD (j - 1) 0).toNat 0)⟩ else M.regs } := by
          unfold actB
          rw [if_neg h1, if_neg h2, if_neg h3, if_neg (by omega), if_pos e]
        rw [e0]
        split
        · exact hset _ _ _ (bnd_zero (by have h6 : 0 ≤ ((S.regs q.2.1.toNat).weight + 1) * K := Int.mul_nonneg (by have := hR.1.1; omega) hk0; omega))
        · show ∀ r, _ → _ ∧ bnd _ ((if (M.regs q.2.1.toNat).has then _ else M.regs : Nat → Ct) r).num
          split
          · exact hset _ _ _ (hsum _ (hl.table _))
          · exact hid
    · have e0 : (actB c x y i j M q).slots = M.slots := by
        unfold actB
        rw [if_neg h1, if_neg h2, if_neg h3]
        rcases h45 with e | e
        · rw [if_pos e]
        · rw [if_neg (by omega), if_pos e]
          show (if i = 0 ∨ j = 0 then _ else _ : Ms).slots = _
          split <;> rfl
      rw [e0]
      exact hpl _ htm
    · have e0 : (actB c x y i j M q).ends = M.ends := by
        unfold actB
        rw [if_neg h1, if_neg h2, if_neg h3]
        rcases h45 with e | e
        · rw [if_pos e]
        · rw [if_neg (by omega), if_pos e]
          show (if i = 0 ∨ j = 0 then _ else _ : Ms).ends = _
          split <;> rfl
      rw [e0]; exact h.ends
  have h4 : q.1 ≠ 4 := fun e => h45 (Or.inl e)
  have h5 : q.1 ≠ 5 := fun e => h45 (Or.inr e)
  by_cases h6 : q.1 = 6
  · have hw : (S.regs q.2.1.toNat).wr = true ∧ (S.regs q.2.2.1.toNat).wr = true := by
      simp only [rdB, h6] at e2; simpa using e2
    have hA := h.regs _ hw.1
    have hC := h.regs _ hw.2
    refine ⟨?_, ?_, hfr, ?_⟩
    · simp only [pastP, actB, h6] at htm ⊢
      refine hregs _ _ _ _ htm fun _ => ⟨⟨show 0 ≤ max (S.regs q.2.1.toNat).weight (S.regs q.2.2.1.toNat).weight by have := hA.1.1; omega, show max (S.regs q.2.1.toNat).weight (S.regs q.2.2.1.toNat).weight ≤ S.top by have := hA.1.2; have := hC.1.2; omega⟩, ?_⟩
      show bnd (B + max (S.regs q.2.1.toNat).weight (S.regs q.2.2.1.toNat).weight * K) _
      have m1 : (S.regs q.2.1.toNat).weight * K ≤ max (S.regs q.2.1.toNat).weight (S.regs q.2.2.1.toNat).weight * K := Int.mul_le_mul_of_nonneg_right (by omega) hk0
      have m2 : (S.regs q.2.2.1.toNat).weight * K ≤ max (S.regs q.2.1.toNat).weight (S.regs q.2.2.1.toNat).weight * K := Int.mul_le_mul_of_nonneg_right (by omega) hk0
      rcases metC_num (M.regs q.2.1.toNat) (M.regs q.2.2.1.toNat) q.2.2.2 with e | e
      · rw [e]; exact bnd_mono hA.2 (by omega)
      · rw [e]; exact bnd_mono hC.2 (by omega)
    · simp only [pastP, actB, h6] at htm ⊢
      exact h.pl
    · simp only [actB, h6]; exact h.ends
  by_cases h7 : q.1 = 7
  · have hwr : (S.regs q.2.2.1.toNat).wr = true := by
      simp only [rdB, h7] at e2; simpa using e2
    have hR := h.regs _ hwr
    have hp7 := hg.keepP q hq h7
    refine ⟨?_, ?_, hfr, ?_⟩
    · simp only [pastP, actB, h7]; exact h.regs
    · simp only [pastP, actB, h7]
      show ∀ p, p < c.planes.toNat → (updP S.pl q.2.1.toNat (true, (S.regs q.2.2.1.toNat).weight) p).1 = true → (0 ≤ (updP S.pl q.2.1.toNat (true, (S.regs q.2.2.1.toNat).weight) p).2 ∧ (updP S.pl q.2.1.toNat (true, (S.regs q.2.2.1.toNat).weight) p).2 ≤ S.top) ∧ bnd (B + (updP S.pl q.2.1.toNat (true, (S.regs q.2.2.1.toNat).weight) p).2 * K) (updC M.slots (placeB c.planes.toNat y.length q.2.1.toNat i j) (if (M.regs q.2.2.1.toNat).has then M.regs q.2.2.1.toNat else ct0) (placeB c.planes.toNat y.length p i j)).num
      intro p p2
      by_cases e : p = q.2.1.toNat
      · subst e
        intro _
        rw [updC_same, updP_same]
        refine ⟨hR.1, ?_⟩
        show bnd (B + (S.regs q.2.2.1.toNat).weight * K) _
        split
        · exact hR.2
        · exact bnd_zero (by have h6 : 0 ≤ (S.regs q.2.2.1.toNat).weight * K := Int.mul_nonneg hR.1.1 hk0; omega)
      · rw [updP_ne _ _ e, updC_ne _ _ (fun e' => e (place_inj p2 hp7 hj hj e').1)]
        exact h.pl p p2
    · simp only [actB, h7]; exact h.ends
  · have h8 : q.1 = 8 := by have := hn.1; omega
    have hw : (S.pl q.2.1.toNat).1 = true := by
      simp only [rdB, h8] at e2; simpa using e2
    have hpp : q.2.1.toNat < c.planes.toNat := by
      have h5 := hn.2.1
      rw [h8] at h5
      have e : (limB c 8).1 = c.planes := rfl
      rw [e] at h5; have := hg.rt.planes; omega
    have hp := h.pl _ hpp hw
    have hq0 : (q.2.1.toNat : Int) = q.2.1 := by have := hn.2.1.1; omega
    have ep : pastP S q = weighP S ((S.pl q.2.1.toNat).2 + 1) := by
      unfold pastP
      rw [if_neg h1, if_neg h2, if_neg h3, if_neg h45, if_neg h6, if_neg h7]
    rw [ep] at htm hT ⊢
    have htop : (weighP S ((S.pl q.2.1.toNat).2 + 1)).top = max S.top ((S.pl q.2.1.toNat).2 + 1) := rfl
    rw [htop] at htm hT
    have hwT := hl.le (x := (S.pl q.2.1.toNat).2 + 1) (by omega)
    have hmul : ((S.pl q.2.1.toNat).2 + 1) * K = (S.pl q.2.1.toNat).2 * K + K := by rw [Int.add_mul, Int.one_mul]
    have ea : (actB c x y i j M q).regs = M.regs ∧ (actB c x y i j M q).slots = M.slots := by
      unfold actB
      rw [if_neg h1, if_neg h2, if_neg h3, if_neg h4, if_neg h5, if_neg h6, if_neg h7]
      show (if _ then _ else M : Ms).regs = _ ∧ (if _ then _ else M : Ms).slots = _
      split <;> exact ⟨rfl, rfl⟩
    refine ⟨?_, ?_, hfr, ?_⟩
    · rw [ea.1]
      intro r hr
      have := h.regs r hr
      exact ⟨⟨this.1.1, show (S.regs r).weight ≤ max S.top _ by have := this.1.2; omega⟩, this.2⟩
    · rw [ea.2]; exact hpl _ htm
    · unfold actB
      rw [if_neg h1, if_neg h2, if_neg h3, if_neg h4, if_neg h5, if_neg h6, if_neg h7]
      show bnd _ (if _ then _ else M : Ms).ends.score
      split
      · show bnd _ (endB M.ends _ _ _ _).score
        rcases endB_score M.ends q.2.1.toNat i j (wrap64 ((atB c.planes.toNat x.length y.length M.slots q.2.1 i j).num + c.consts.getD q.2.2.1.toNat 0)) with e | e
        · rw [e]; exact h.ends
        · rw [e, ← hq0, atB_in hpp hi hj]
          have h9 := hl.consts q.2.2.1.toNat
          have h10 := hp.2
          unfold bnd at h9 h10
          rw [wrap_in (by unfold bnd; omega)]
          unfold bnd; omega
      · exact h.ends
/-- All instructions of a cell. -/
theorem cell_bound {c : Cd} (hg : Gk c) {K T B : Int} (hl : Lm c K T) {x y : List Int} {i j : Nat} (hi : i ≤ x.length) (hj : j ≤ y.length) (hB : 0 ≤ B ∧ B + T * K ≤ 4611686018427387904) {M : Ms} (hbk : backB2 c B x.length y.length M.slots i j) (he : bnd 4611686018427387904 M.ends.score) :
    CellB c K T B y.length M.slots i j (goP c (st0 0) 0 c.cell).2 (c.cell.foldl (actB c x y i j) M) := by
  have h0 : CellB c K T B y.length M.slots i j (st0 0) M := ⟨fun r hr => by simp [st0, rg0] at hr, fun p _ hp => by simp [st0] at hp, fun _ _ => rfl, he⟩
  have h1 := cell_sim c (actB c x y i j) (fun S M' => S.top ≤ T → CellB c K T B y.length M.slots i j S M') c.cell (st0 0) 0 M hg.go (fun q hq S M' hq0 hP hT => (hP (by have := top_mono S q; omega)).act hg hl hi hj hB hbk hq hq0 hT) (fun _ => h0)
  exact h1 hl.top
/-- Numbers of a run: at each cell behind it, at most its place in sums. -/
structure RunB (c : Cd) (K T : Int) (X Y : Nat) (pre : List (Nat × Nat)) (M : Ms) : Prop where
  slots : ∀ u v p : Nat, v ≤ Y → p < c.planes.toNat → bnd (((u : Int) + v + 1) * (T * K)) (M.slots (placeB c.planes.toNat Y p u v)).num
  off : ∀ u v p : Nat, v ≤ Y → p < c.planes.toNat → (u, v) ∉ pre → M.slots (placeB c.planes.toNat Y p u v) = ct0
  ends : bnd 4611686018427387904 M.ends.score
theorem run_back {c : Cd} {K T : Int} (hl : Lm c K T) {X Y i j : Nat} {F : Nat → Ct} (h : ∀ u v p : Nat, v ≤ Y → p < c.planes.toNat → bnd (((u : Int) + v + 1) * (T * K)) (F (placeB c.planes.toNat Y p u v)).num) : backB2 c (((i : Int) + j) * (T * K)) X Y F i j := by
  intro p s hs
  have hd := hl.d0
  have hz : 0 ≤ ((i : Int) + j) * (T * K) := Int.mul_nonneg (by omega) hd
  by_cases hin : (0 ≤ p ∧ p < (c.planes.toNat : Int)) ∧ (0 ≤ (i : Int) - (backB s).1 ∧ (i : Int) - (backB s).1 ≤ X) ∧ (0 ≤ (j : Int) - (backB s).2 ∧ (j : Int) - (backB s).2 ≤ Y)
  · obtain ⟨⟨p1, p2⟩, ⟨u1, u2⟩, v1, v2⟩ := hin
    obtain ⟨pn, rfl⟩ : ∃ n : Nat, p = n := ⟨p.toNat, by omega⟩
    obtain ⟨u, hu⟩ : ∃ n : Nat, (i : Int) - (backB s).1 = n := ⟨((i : Int) - (backB s).1).toNat, by omega⟩
    obtain ⟨v, hv⟩ : ∃ n : Nat, (j : Int) - (backB s).2 = n := ⟨((j : Int) - (backB s).2).toNat, by omega⟩
    rw [hu, hv, atB_in (by omega) (by omega) (by omega)]
    refine bnd_mono (h u v pn (by omega) (by omega)) (Int.mul_le_mul_of_nonneg_right ?_ hd)
    have := back_lex hs
    omega
  · rw [at_off hin]; exact bnd_zero hz
theorem run_bound {c : Cd} (hg : Gk c) {K T : Int} (hl : Lm c K T) (x y : List Int) (hx : (x.length : Int) ≤ c.most) (hy : (y.length : Int) ≤ c.most) : RunB c K T x.length y.length (cellsL c x.length y.length) (runM c x y) := by
  have hd := hl.d0
  rw [runM_cells]
  refine cells_ind c x.length y.length (fun M p => cellM c x y p.1 p.2 M) ms0 (RunB c K T x.length y.length) ⟨fun u v p _ _ => bnd_zero (Int.mul_nonneg (by omega) hd), fun _ _ _ _ _ _ => rfl, bnd_zero (by decide)⟩ ?_
  intro pre i j M hi hj hb hpre h
  have hm := hl.cell (n := (i : Int) + j) (by omega)
  have hc := cell_bound hg hl hi hj ⟨hm.2, hm.1⟩ (run_back hl h.slots) h.ends
  have hfr : ∀ k, (∀ p, p < c.planes.toNat → k ≠ placeB c.planes.toNat y.length p i j) → (cellM c x y i j M).slots k = M.slots k := fun k hk => cell_frame hg x y i j M k hk
  refine ⟨fun u v p hv hp => ?_, fun u v p hv hp huv => ?_, hc.ends⟩
  · by_cases he : u = i ∧ v = j
    · obtain ⟨rfl, rfl⟩ := he
      have hall : ((goP c (st0 0) 0 c.cell).2.pl p).1 = true := by
        have := hg.all
        unfold allK at this
        rw [List.all_eq_true] at this
        exact this p (List.mem_range.2 hp)
      have h1 := hc.pl p hp hall
      refine bnd_mono h1.2 ?_
      have h2 := hl.le (x := ((goP c (st0 0) 0 c.cell).2.pl p).2) (by have := h1.1.2; have := hl.top; omega)
      rw [Int.add_mul _ 1, Int.one_mul]
      omega
    · show bnd _ ((cellM c x y i j M).slots _).num
      rw [hfr _ fun p' hp' e => he (place_inj hp hp' hv hj e).2]
      exact h.slots u v p hv hp
  · have hne : ¬ (u = i ∧ v = j) := fun e => huv (by rw [e.1, e.2]; simp)
    show (cellM c x y i j M).slots _ = ct0
    rw [hfr _ fun p' hp' e => hne (place_inj hp hp' hv hj e).2]
    exact h.off u v p hv hp fun hm => huv (List.mem_append_left _ hm)
/-- What Value and Best tell is small. -/
theorem run_small {c : Cd} (hg : Gk c) (x y : List Int) (hx : (x.length : Int) ≤ c.most) (hy : (y.length : Int) ≤ c.most) : (∀ p i j : Nat, p < c.planes.toNat → i ≤ x.length → j ≤ y.length → bnd 4611686018427387904 (atB c.planes.toNat x.length y.length (runM c x y).slots p i j).num) ∧ bnd 4611686018427387904 (runM c x y).ends.score := by
  obtain ⟨K, T, hl⟩ := hg.lm
  have h := run_bound hg hl x y hx hy
  refine ⟨fun p i j hp hi hj => ?_, h.ends⟩
  rw [atB_in hp hi hj]
  refine bnd_mono (h.slots i j p hj hp) ?_
  have hm := hl.cell (n := (i : Int) + j) (by omega)
  rw [Int.add_mul _ 1, Int.one_mul]
  omega
end Go.Proofs.Ytjpeoejielamiaa
