/-
  The cells that are run, in their order, in plain lists; instructions at a cell, by what is known of them. Masks are small; places of cells are apart. Whence numbers come: each way that a mask tells is an arrow's, and has a number where it comes from.
-/
import Derived.Test.YtnkfibahkmmnpaaGreatKad
namespace Go.Proofs.YtnkfibahkmmnpaaGreat
open Go.RowKit

def inBd (c : Cd) (i j : Nat) : Bool := decide (c.lo ≤ (j : Int) - i) && decide ((j : Int) - i ≤ c.hi)
def cellsL (c : Cd) (X Y : Nat) : List (Nat × Nat) := (List.range (X + 1)).flatMap fun i => ((List.range (Y + 1)).filter fun j => inBd c i j).map fun j => (i, j)
theorem filter_range (lo hi : Nat) : ∀ n : Nat, (List.range n).filter (fun j => decide (lo ≤ j) && decide (j < hi)) = List.range' lo (min hi n - lo)
  | 0 => by simp
  | n + 1 => by
    rw [List.range_succ, List.filter_append, filter_range lo hi n]
    by_cases h : lo ≤ n ∧ n < hi
    · have e : min hi (n + 1) - lo = (min hi n - lo) + 1 := by omega
      have e2 : lo + (min hi n - lo) = n := by omega
      rw [e, List.range'_concat, Nat.one_mul, e2]
      simp [h.1, h.2]
    · have e : min hi (n + 1) - lo = min hi n - lo := by omega
      have e2 : (decide (lo ≤ n) && decide (n < hi)) = false := by
        cases hd : (decide (lo ≤ n) && decide (n < hi)) with
        | false => rfl
        | true => exact absurd (by simpa using hd) h
      rw [e]; simp [e2]
theorem row_cells (c : Cd) (y : List Int) (i : Nat) : List.range' (rowLo c i) ((rowHi c y i) + 1 - (rowLo c i : Int)).toNat = (List.range (y.length + 1)).filter fun j => inBd c i j := by
  have h := filter_range (rowLo c i) (((i : Int) + c.hi + 1).toNat) (y.length + 1)
  have e : (fun j => inBd c i j) = fun j => decide (rowLo c i ≤ j) && decide (j < ((i : Int) + c.hi + 1).toNat) := by
    funext j
    unfold inBd rowLo
    rw [Bool.eq_iff_iff]
    simp only [Bool.and_eq_true, decide_eq_true_eq]
    omega
  rw [e, h]
  congr 1
  unfold rowHi
  omega
theorem foldl_flat {α β γ : Type} (f : α → β → α) (g : γ → List β) : ∀ (l : List γ) (a : α), (l.flatMap g).foldl f a = l.foldl (fun a z => (g z).foldl f a) a
  | [], _ => rfl
  | z :: l, a => by rw [List.flatMap_cons, List.foldl_append, List.foldl_cons, foldl_flat f g l]
theorem runM_cells (c : Cd) (x y : List Int) : runM c x y = (cellsL c x.length y.length).foldl (fun M p => cellM c x y p.1 p.2 M) ms0 := by
  unfold runM cellsL
  rw [foldl_flat]
  congr 1
  funext M i
  unfold rowM
  rw [row_cells, List.foldl_map]
/-- Ahead of a cell, row by row. -/
def lexB (a b i j : Nat) : Prop := a < i ∨ a = i ∧ b < j
theorem cells_mem (c : Cd) (X Y a b : Nat) : (a, b) ∈ cellsL c X Y ↔ a ≤ X ∧ b ≤ Y ∧ inBd c a b = true := by
  unfold cellsL
  simp only [List.mem_flatMap, List.mem_range, List.mem_map, List.mem_filter, Prod.mk.injEq]
  constructor
  · rintro ⟨i, hi, j, ⟨hj, hb⟩, rfl, rfl⟩
    exact ⟨by omega, by omega, hb⟩
  · rintro ⟨hi, hj, hb⟩
    exact ⟨a, by omega, b, ⟨by omega, hb⟩, rfl, rfl⟩
theorem cells_order (c : Cd) (X Y : Nat) : (cellsL c X Y).Pairwise fun p q => lexB p.1 p.2 q.1 q.2 := by
  unfold cellsL
  rw [List.pairwise_flatMap]
  constructor
  · intro i _
    rw [List.pairwise_map]
    exact ((List.pairwise_lt_range).filter _).imp fun h => Or.inr ⟨rfl, h⟩
  · refine List.pairwise_lt_range.imp ?_
    intro a b hab p hp q hq
    simp only [List.mem_map] at hp hq
    obtain ⟨_, _, rfl⟩ := hp
    obtain ⟨_, _, rfl⟩ := hq
    exact Or.inl hab
theorem list_ind {α β : Type} (f : α → β → α) (P : List β → α → Prop) (L : List β) : ∀ (post pre : List β) (a : α), L = pre ++ post → P pre a →
    (∀ (pre post : List β) (z : β) (a : α), L = pre ++ z :: post → P pre a → P (pre ++ [z]) (f a z)) → P L (post.foldl f a)
  | [], pre, a, hL, h, _ => by rw [List.append_nil] at hL; rw [hL]; exact h
  | z :: post, pre, a, hL, h, hs => by
    rw [List.foldl_cons]
    exact list_ind f P L post (pre ++ [z]) (f a z) (by rw [hL, List.append_assoc]; rfl) (hs pre post z a hL h) hs
/-- What holds of all cells, one behind the other. -/
theorem cells_ind {α : Type} (c : Cd) (X Y : Nat) (f : α → Nat × Nat → α) (a0 : α) (P : List (Nat × Nat) → α → Prop) (h0 : P [] a0)
    (hs : ∀ (pre : List (Nat × Nat)) (i j : Nat) (a : α), i ≤ X → j ≤ Y → inBd c i j = true → (∀ u v, (u, v) ∈ pre ↔ (u ≤ X ∧ v ≤ Y ∧ inBd c u v = true) ∧ lexB u v i j) → P pre a → P (pre ++ [(i, j)]) (f a (i, j))) :
    P (cellsL c X Y) ((cellsL c X Y).foldl f a0) := by
  refine list_ind f P (cellsL c X Y) (cellsL c X Y) [] a0 rfl h0 ?_
  rintro pre post ⟨i, j⟩ a hL hp
  have hm : (i, j) ∈ cellsL c X Y := by rw [hL]; simp
  obtain ⟨h1, h2, h3⟩ := (cells_mem c X Y i j).1 hm
  refine hs pre i j a h1 h2 h3 (fun u v => ?_) hp
  have ho := cells_order c X Y
  rw [hL, List.pairwise_append] at ho
  obtain ⟨_, o2, o3⟩ := ho
  rw [List.pairwise_cons] at o2
  constructor
  · intro hu
    exact ⟨(cells_mem c X Y u v).1 (by rw [hL]; simp [hu]), o3 (u, v) hu (i, j) (by simp)⟩
  · rintro ⟨hu, hl⟩
    have := (cells_mem c X Y u v).2 hu
    rw [hL] at this
    simp only [List.mem_append, List.mem_cons, Prod.mk.injEq] at this
    rcases this with h | ⟨rfl, rfl⟩ | h
    · exact h
    · unfold lexB at hl; omega
    · have := o2.1 (u, v) h
      unfold lexB at hl this
      simp only at this
      omega
/-- What stands of a cell's instructions, by what is known of registers and planes. -/
theorem cell_sim {α : Type} (c : Cd) (f : α → Qd → α) (P : St → α → Prop) : ∀ (l : List Qd) (S : St) (k : Nat) (a : α), (goP c S k l).1.2 = 0 →
    (∀ q ∈ l, ∀ (S : St) (a : α), errB c S q = 0 → P S a → P (pastP S q) (f a q)) → P S a → P (goP c S k l).2 (l.foldl f a)
  | [], _, _, _, _, _, h => h
  | q :: l, S, k, a, hg, hs, h => by
    unfold goP at hg ⊢
    split
    · rename_i e
      rw [if_pos e] at hg
      exact cell_sim c f P l (pastP S q) (k + 1) (f a q) hg (fun z hz => hs z (List.mem_cons_of_mem _ hz)) (hs q List.mem_cons_self S a e h)
    · rename_i e
      rw [if_neg e] at hg
      exact absurd hg e
theorem goP_all (c : Cd) : ∀ (l : List Qd) (S : St) (k : Nat), (goP c S k l).1.2 = 0 → ∀ q ∈ l, ∃ S', errB c S' q = 0
  | [], _, _, _, q, hq => by simp at hq
  | z :: l, S, k, hg, q, hq => by
    unfold goP at hg
    split at hg
    · rename_i e
      rcases List.mem_cons.1 hq with rfl | h
      · exact ⟨S, e⟩
      · exact goP_all c l _ _ hg q h
    · rename_i e
      exact absurd hg e
/-- What a code that Check takes keeps to. -/
structure Gk (c : Cd) : Prop where
  rt : Rt c
  tbl : (c.table.length : Int) = c.letters * c.letters
  band : (-65537 ≤ c.lo ∧ c.lo ≤ 65537) ∧ (-65537 ≤ c.hi ∧ c.hi ≤ 65537) ∧ c.lo ≤ c.hi
  ars : arsB c = true
  go : (goP c (st0 0) 0 c.cell).1.2 = 0
  all : allK (goP c (st0 0) 0 c.cell).2 c.planes.toNat = true
  wid : widB c (goP c (st0 0) 0 c.cell).2.top = false
theorem gk_of {c : Cd} (h : (chkB c).2 = 0) : Gk c := by
  unfold chkB at h
  split at h
  · exact absurd h (by decide)
  rename_i h1
  split at h
  · exact absurd h (by decide)
  rename_i h2
  split at h
  · rename_i h3; exact absurd h h3
  rename_i h3
  split at h
  · exact absurd h (by decide)
  rename_i h4
  split at h
  · exact absurd h (by decide)
  rename_i h5
  have hr : rightB c = true := by simpa using h1
  have hr2 := hr
  simp only [rightB, headB, listsB, Bool.and_eq_true, decide_eq_true_eq, allB, List.all_eq_true, inB_iff, List.mem_cons, List.not_mem_nil, or_false, forall_eq_or_imp, forall_eq] at hr2
  obtain ⟨⟨⟨g1, g2⟩, _⟩, _⟩ := hr2
  exact ⟨rt_of hr, g2.1.1.1, ⟨⟨g1.1.2.1.1, g1.1.2.1.2⟩, ⟨g1.1.2.2.1, g1.1.2.2.2⟩, g1.2⟩, by simpa using h2, by simpa using h3, by simpa using h4, by simpa using h5⟩
theorem err_0 {c : Cd} {S : St} {q : Qd} (h : errB c S q = 0) : namB c q = true ∧ rdB S q = true ∧ twB S q = false ∧ gdB c S q = true := by
  unfold errB at h
  split at h
  · exact absurd h (by decide)
  rename_i h1
  split at h
  · exact absurd h (by decide)
  rename_i h2
  split at h
  · exact absurd h (by decide)
  rename_i h3
  split at h
  · exact absurd h (by decide)
  rename_i h4
  exact ⟨by simpa using h1, by simpa using h2, by simpa using h3, by simpa using h4⟩
/-- What an instruction names is there. -/
theorem Gk.nam {c : Cd} (h : Gk c) {q : Qd} (hq : q ∈ c.cell) : (1 ≤ q.1 ∧ q.1 ≤ 8) ∧ (0 ≤ q.2.1 ∧ q.2.1 < (limB c q.1).1) ∧ (0 ≤ q.2.2.1 ∧ q.2.2.1 < (limB c q.1).2.1) ∧ (0 ≤ q.2.2.2 ∧ q.2.2.2 < (limB c q.1).2.2) := by
  obtain ⟨S, e⟩ := goP_all c c.cell (st0 0) 0 h.go q hq
  have h1 := (err_0 e).1
  have h2 := h.rt.cell q hq
  simp only [namB, Bool.and_eq_true, decide_eq_true_eq] at h1
  exact ⟨h2.1, ⟨h2.2.1.1, h1.1.1⟩, ⟨h2.2.2.1.1, h1.1.2⟩, ⟨h2.2.2.2.1, h1.2⟩⟩
end Go.Proofs.YtnkfibahkmmnpaaGreat
namespace Go.Proofs.YtnkfibahkmmnpaaGreat
open Go.RowKit

def okN (c : Ct) : Prop := 0 ≤ c.mask ∧ c.mask < 65536
theorem ok_ct0 : okN ct0 := ⟨by decide, by decide⟩
theorem ok_zero (h : Bool) (n : Int) : okN ⟨h, 0, n⟩ := ⟨Int.le_refl (0 : Int), show (0 : Int) < 65536 by decide⟩
theorem bit_small {r : Int} (h : r < 16) : bitB r < 65536 ∧ 0 ≤ bitB r := by
  unfold bitB
  have h1 : r.toNat ≤ 15 := by omega
  have h2 : 2 ^ r.toNat ≤ 2 ^ 15 := Nat.pow_le_pow_right (by omega) h1
  have h3 : 2 ^ 15 < 65536 := by decide
  generalize 2 ^ r.toNat = m at *
  omega
theorem or_small {n m : Nat} (hn : n < 65536) (hm : m < 65536) : n ||| m < 65536 := by
  have : n ||| m < 2 ^ 16 := Nat.or_lt_two_pow hn hm
  omega
theorem metC_ok {a b : Ct} {r : Int} (h : r < 16) (ha : okN a) : okN (metC a b r) := by
  unfold metC
  split
  · exact ha
  split
  · exact ⟨(bit_small h).2, (bit_small h).1⟩
  split
  · have h1 := bit_small h
    unfold bitB at h1
    have h2 : a.mask.toNat < 65536 := by have := ha.2; omega
    have h3 := or_small h2 (show 2 ^ r.toNat < 65536 by omega)
    constructor
    · show (0 : Int) ≤ ((a.mask.toNat ||| 2 ^ r.toNat : Nat) : Int); omega
    · show ((a.mask.toNat ||| 2 ^ r.toNat : Nat) : Int) < 65536; omega
  · exact ha
theorem updC_all {Q : Ct → Prop} {f : Nat → Ct} (h : ∀ k, Q (f k)) (n : Nat) {v : Ct} (hv : Q v) : ∀ k, Q (updC f n v k) := by
  intro k
  unfold updC
  split
  · exact hv
  · exact h k
structure MOk (M : Ms) : Prop where
  regs : ∀ k, okN (M.regs k)
  slots : ∀ k, okN (M.slots k)
theorem MOk.start : MOk ms0 := ⟨fun _ => ok_ct0, fun _ => ok_ct0⟩
theorem MOk.act {M : Ms} (h : MOk M) (c : Cd) (x y : List Int) (i j : Nat) (q : Qd) (hq : q.1 = 6 → q.2.2.2 < 16) : MOk (actB c x y i j M q) := by
  unfold actB
  split
  · exact ⟨updC_all h.regs _ ok_ct0, h.slots⟩
  split
  · refine ⟨updC_all h.regs _ ?_, h.slots⟩
    split
    · exact ok_zero _ _
    · exact ok_ct0
  split
  · exact ⟨updC_all h.regs _ (ok_zero _ _), h.slots⟩
  split
  · refine ⟨?_, h.slots⟩
    show ∀ k, okN ((if (M.regs q.2.1.toNat).has then _ else M.regs) k)
    split
    · exact updC_all h.regs _ (h.regs q.2.1.toNat)
    · exact h.regs
  split
  · show MOk (if i = 0 ∨ j = 0 then _ else _)
    split
    · exact ⟨updC_all h.regs _ (h.regs q.2.1.toNat), h.slots⟩
    · refine ⟨?_, h.slots⟩
      show ∀ k, okN ((if (M.regs q.2.1.toNat).has then _ else M.regs) k)
      split
      · exact updC_all h.regs _ (h.regs q.2.1.toNat)
      · exact h.regs
  split
  · rename_i e
    exact ⟨updC_all h.regs _ (metC_ok (hq e) (h.regs _)), h.slots⟩
  split
  · refine ⟨h.regs, updC_all h.slots _ ?_⟩
    split
    · exact h.regs _
    · exact ok_ct0
  · show MOk (if _ then _ else M)
    split
    · exact ⟨h.regs, h.slots⟩
    · exact h
theorem MOk.acts (c : Cd) (x y : List Int) (i j : Nat) : ∀ (l : List Qd) {M : Ms}, MOk M → (∀ q ∈ l, q.1 = 6 → q.2.2.2 < 16) → MOk (l.foldl (actB c x y i j) M)
  | [], _, h, _ => h
  | q :: l, _, h, hq => MOk.acts c x y i j l (h.act c x y i j q (hq q List.mem_cons_self)) fun z hz => hq z (List.mem_cons_of_mem _ hz)
theorem lim6 {c : Cd} : (limB c 6).2.2 = 16 := rfl
theorem Gk.bit {c : Cd} (h : Gk c) : ∀ q ∈ c.cell, q.1 = 6 → q.2.2.2 < 16 := fun q hq e => by
  have := (h.nam hq).2.2.2.2
  rw [e] at this
  exact this
theorem MOk.cell {M : Ms} (h : MOk M) {c : Cd} (hg : Gk c) (x y : List Int) (i j : Nat) : MOk (cellM c x y i j M) :=
  ⟨(MOk.acts c x y i j c.cell h hg.bit).regs, (MOk.acts c x y i j c.cell h hg.bit).slots⟩
theorem MOk.run {c : Cd} (hg : Gk c) (x y : List Int) : MOk (runM c x y) := by
  rw [runM_cells]
  exact cells_ind c x.length y.length (fun M p => cellM c x y p.1 p.2 M) ms0 (fun _ M => MOk M) MOk.start fun _ _ _ _ _ _ _ _ hp => hp.cell hg x y _ _

theorem place_inj {P y p i j p' i' j' : Nat} (hp : p < P) (hp' : p' < P) (hj : j ≤ y) (hj' : j' ≤ y) (h : placeB P y p i j = placeB P y p' i' j') : p = p' ∧ i = i' ∧ j = j' := by
  unfold placeB at h
  have hP : 0 < P := by omega
  have e1 : ((i * (y + 1) + j) * P + p) / P = i * (y + 1) + j := by
    rw [Nat.mul_comm, Nat.mul_add_div hP, Nat.div_eq_of_lt hp, Nat.add_zero]
  have e2 : ((i' * (y + 1) + j') * P + p') / P = i' * (y + 1) + j' := by
    rw [Nat.mul_comm, Nat.mul_add_div hP, Nat.div_eq_of_lt hp', Nat.add_zero]
  have e3 : i * (y + 1) + j = i' * (y + 1) + j' := by rw [← e1, ← e2, h]
  have hp2 : p = p' := by rw [e3] at h; omega
  have f1 : (i * (y + 1) + j) / (y + 1) = i := by
    rw [Nat.mul_comm, Nat.mul_add_div (by omega), Nat.div_eq_of_lt (by omega), Nat.add_zero]
  have f2 : (i' * (y + 1) + j') / (y + 1) = i' := by
    rw [Nat.mul_comm, Nat.mul_add_div (by omega), Nat.div_eq_of_lt (by omega), Nat.add_zero]
  have hi : i = i' := by rw [← f1, ← f2, e3]
  subst hi
  exact ⟨hp2, rfl, by omega⟩
theorem inR_is {n : Int} {m : Nat} : inR n m = true ↔ 0 ≤ n ∧ n < (m : Int) := by simp [inR]
/-- What stands at another cell is as it was. -/
theorem at_other {P X Y : Nat} {F G : Nat → Ct} {i j : Nat} (hj : j ≤ Y) (hFG : ∀ k, (∀ p, p < P → k ≠ placeB P Y p i j) → G k = F k) (p : Int) (u v : Int) (h : u ≠ i ∨ v ≠ j) : atB P X Y G p u v = atB P X Y F p u v := by
  unfold atB
  split
  · rename_i hr
    simp only [Bool.and_eq_true, inR_is] at hr
    obtain ⟨⟨hp, hu⟩, hv⟩ := hr
    refine hFG _ fun p' hp' e => ?_
    obtain ⟨_, e2, e3⟩ := place_inj (by omega) hp' (by omega) hj e
    omega
  · rfl
theorem atB_in {P X Y : Nat} {F : Nat → Ct} {p i j : Nat} (hp : p < P) (hi : i ≤ X) (hj : j ≤ Y) : atB P X Y F p i j = F (placeB P Y p i j) := by
  unfold atB
  have h : (inR (p : Int) P && inR (i : Int) (X + 1) && inR (j : Int) (Y + 1)) = true := by
    simp only [Bool.and_eq_true, inR_is]; omega
  rw [if_pos h]; simp
theorem at_off {P X Y : Nat} {F : Nat → Ct} {p i j : Int} (h : ¬ ((0 ≤ p ∧ p < P) ∧ (0 ≤ i ∧ i ≤ X) ∧ (0 ≤ j ∧ j ≤ Y))) : atB P X Y F p i j = ct0 := by
  unfold atB
  rw [if_neg]
  simp only [Bool.and_eq_true, inR_is]
  omega
/-- A step goes back, if it is one. -/
theorem back_lex {s : Int} (h : 1 ≤ s ∧ s ≤ 3) : ((backB s).1 = 1 ∧ (backB s).2 = 1) ∨ ((backB s).1 = 1 ∧ (backB s).2 = 0) ∨ ((backB s).1 = 0 ∧ (backB s).2 = 1) := by
  have : s = 1 ∨ s = 2 ∨ s = 3 := by omega
  rcases this with rfl | rfl | rfl
  · exact Or.inl ⟨rfl, rfl⟩
  · exact Or.inr (Or.inl ⟨rfl, rfl⟩)
  · exact Or.inr (Or.inr ⟨rfl, rfl⟩)
/-- The slots of other cells stay through a cell. -/
theorem act_frame (c : Cd) (x y : List Int) (i j : Nat) (M : Ms) (q : Qd) (hq : q.1 = 7 → q.2.1.toNat < c.planes.toNat) (k : Nat) (hk : ∀ p, p < c.planes.toNat → k ≠ placeB c.planes.toNat y.length p i j) : (actB c x y i j M q).slots k = M.slots k := by
  unfold actB
  split
  · rfl
  split
  · rfl
  split
  · rfl
  split
  · rfl
  split
  · show (if i = 0 ∨ j = 0 then _ else _ : Ms).slots k = _
    split <;> rfl
  split
  · rfl
  split
  · rename_i e
    exact updC_ne _ _ (hk _ (hq e))
  · show (if _ then _ else M : Ms).slots k = _
    split <;> rfl
theorem Gk.keepP {c : Cd} (h : Gk c) : ∀ q ∈ c.cell, q.1 = 7 → q.2.1.toNat < c.planes.toNat := fun q hq e => by
  have h1 := (h.nam hq).2.1
  rw [e] at h1
  have : (limB c 7).1 = c.planes := rfl
  rw [this] at h1
  have := h.rt.planes
  omega
theorem acts_frame (c : Cd) (x y : List Int) (i j : Nat) (k : Nat) (hk : ∀ p, p < c.planes.toNat → k ≠ placeB c.planes.toNat y.length p i j) : ∀ (l : List Qd) (M : Ms), (∀ q ∈ l, q.1 = 7 → q.2.1.toNat < c.planes.toNat) → (l.foldl (actB c x y i j) M).slots k = M.slots k
  | [], _, _ => rfl
  | q :: l, M, hq => by
    rw [List.foldl_cons, acts_frame c x y i j k hk l _ fun z hz => hq z (List.mem_cons_of_mem _ hz)]
    exact act_frame c x y i j M q (hq q List.mem_cons_self) k hk
theorem cell_frame {c : Cd} (hg : Gk c) (x y : List Int) (i j : Nat) (M : Ms) (k : Nat) (hk : ∀ p, p < c.planes.toNat → k ≠ placeB c.planes.toNat y.length p i j) : (cellM c x y i j M).slots k = M.slots k :=
  acts_frame c x y i j k hk c.cell M hg.keepP
end Go.Proofs.YtnkfibahkmmnpaaGreat
namespace Go.Proofs.YtnkfibahkmmnpaaGreat
open Go.RowKit

/-- An origin is open: there is a number where it comes from. -/
def opn (P X Y : Nat) (F : Nat → Ct) (i j : Nat) (z : Int × Int × Int) : Prop := z.1 ≠ 0 ∧ (z.1 = 2 → (atB P X Y F z.2.1 ((i : Int) - (backB z.2.2).1) ((j : Int) - (backB z.2.2).2)).has = true)
structure RegOk (P X Y : Nat) (F : Nat → Ct) (i j : Nat) (a : Rg) (R : Ct) : Prop where
  ways : R.has = true → ∀ b, R.mask.toNat.testBit b = true → ∃ w ∈ a.ways, w.1 = (b : Int) ∧ opn P X Y F i j w.2
  none : R.has = true → R.mask = 0 → opn P X Y F i j (a.kind, a.plane, a.step)
  new : R.has = true → a.met = false → R.mask = 0
theorem reg_zero {P X Y : Nat} {F : Nat → Ct} {i j : Nat} {a : Rg} {h : Bool} {n : Int} (ho : h = true → opn P X Y F i j (a.kind, a.plane, a.step)) : RegOk P X Y F i j a ⟨h, 0, n⟩ :=
  ⟨fun _ b hb => by simp at hb, fun hh _ => ho hh, fun _ _ => rfl⟩
theorem reg_not {P X Y : Nat} {F : Nat → Ct} {i j : Nat} {a : Rg} {R : Ct} (h : R.has = false) : RegOk P X Y F i j a R :=
  ⟨fun hh => absurd (h.symm.trans hh) (by decide), fun hh => absurd (h.symm.trans hh) (by decide), fun hh => absurd (h.symm.trans hh) (by decide)⟩
theorem bit_pos {r : Int} : bitB r ≠ 0 := by
  unfold bitB
  have : 0 < 2 ^ r.toNat := Nat.two_pow_pos _
  generalize 2 ^ r.toNat = m at *
  omega
theorem test_bit {r : Int} (hr : 0 ≤ r) {b : Nat} (h : (bitB r).toNat.testBit b = true) : r = (b : Int) := by
  unfold bitB at h
  rw [Int.toNat_natCast, Nat.testBit_two_pow] at h
  have := of_decide_eq_true h
  omega
/-- What a meet makes of both. -/
theorem reg_meet {P X Y : Nat} {F : Nat → Ct} {i j : Nat} {a b : Rg} {A B : Ct} (ha : RegOk P X Y F i j a A) (hb : RegOk P X Y F i j b B) {r : Int} (hr : 0 ≤ r ∧ r < 16) :
    RegOk P X Y F i j (meetB a b r) (metC A B r) := by
  have hw : B.has = true → opn P X Y F i j (wayB b r).2 ∧ (wayB b r).1 = r := fun hB => by
    unfold wayB
    cases hm : b.met with
    | true => exact ⟨⟨(by decide : (3 : Int) ≠ 0), fun h => absurd (show (3 : Int) = 2 from h) (by decide)⟩, rfl⟩
    | false => exact ⟨hb.none hB (hb.new hB hm), rfl⟩
  unfold metC
  by_cases hB : B.has = false
  · rw [if_pos hB]
    exact ⟨fun hh t ht => by
      obtain ⟨w, h1, h2⟩ := ha.ways hh t ht
      exact ⟨w, List.mem_append_left _ h1, h2⟩, fun hh hm => ha.none hh hm, fun _ hm => by cases hm⟩
  have hB1 : B.has = true := by simpa using hB
  obtain ⟨hw1, hw2⟩ := hw hB1
  rw [if_neg hB]
  by_cases hN : (!A.has || decide (A.num < B.num)) = true
  · rw [if_pos hN]
    refine ⟨fun _ t ht => ⟨wayB b r, List.mem_append_right _ List.mem_cons_self, ?_, hw1⟩, fun _ hm => absurd hm bit_pos, fun _ hm => by cases hm⟩
    rw [hw2]; exact test_bit hr.1 ht
  rw [if_neg hN]
  by_cases hE : A.num = B.num
  · rw [if_pos hE]
    refine ⟨fun hh t ht => ?_, fun hh hm => ?_, fun _ hm => by cases hm⟩
    · have ht2 : (A.mask.toNat ||| 2 ^ r.toNat).testBit t = true := by simpa using ht
      rw [Nat.testBit_or, Bool.or_eq_true] at ht2
      rcases ht2 with h | h
      · obtain ⟨w, h1, h2⟩ := ha.ways hh t h
        exact ⟨w, List.mem_append_left _ h1, h2⟩
      · refine ⟨wayB b r, List.mem_append_right _ List.mem_cons_self, ?_, hw1⟩
        rw [hw2]; exact test_bit hr.1 (by unfold bitB; rw [Int.toNat_natCast]; exact h)
    · exfalso
      have h0 : (A.mask.toNat ||| 2 ^ r.toNat) = 0 := by
        have : ((A.mask.toNat ||| 2 ^ r.toNat : Nat) : Int) = 0 := hm
        omega
      have h1 : (A.mask.toNat ||| 2 ^ r.toNat).testBit r.toNat = true := by
        rw [Nat.testBit_or, Nat.testBit_two_pow]; simp
      rw [h0] at h1; simp at h1
  · rw [if_neg hE]
    exact ⟨fun hh t ht => by
      obtain ⟨w, h1, h2⟩ := ha.ways hh t ht
      exact ⟨w, List.mem_append_left _ h1, h2⟩, fun hh hm => ha.none hh hm, fun _ hm => by cases hm⟩
/-- What is kept in a plane above 0. -/
def Kept (c : Cd) (X Y : Nat) (F : Nat → Ct) (p : Nat) (i j : Nat) (R : Ct) : Prop :=
  R.has = decide (R.mask ≠ 0) ∧ ∀ b, R.mask.toNat.testBit b = true → ∃ a ∈ c.arrows, a.1 = (p : Int) ∧ a.2.1 = (b : Int) ∧ (atB c.planes.toNat X Y F a.2.2.1 ((i : Int) - (backB a.2.2.2).1) ((j : Int) - (backB a.2.2.2).2)).has = true
/-- What is known within a cell. -/
structure CellOk (c : Cd) (X Y : Nat) (F : Nat → Ct) (i j : Nat) (S : St) (M : Ms) : Prop where
  ok : MOk M
  regs : ∀ r, (S.regs r).wr = true → RegOk c.planes.toNat X Y F i j (S.regs r) (M.regs r)
  frame : ∀ k, (∀ p, p < c.planes.toNat → k ≠ placeB c.planes.toNat Y p i j) → M.slots k = F k
  kept : ∀ p, 1 ≤ p → p < c.planes.toNat → (S.pl p).1 = true → Kept c X Y F p i j (M.slots (placeB c.planes.toNat Y p i j))
theorem setR_other {S : St} {k : Nat} {x : Rg} {r : Nat} (h : r ≠ k) : (setR S k x).regs r = S.regs r := updR_ne _ _ h
theorem regs_upd {P X Y : Nat} {F : Nat → Ct} {i j : Nat} {S : St} {f : Nat → Ct} (h : ∀ r, (S.regs r).wr = true → RegOk P X Y F i j (S.regs r) (f r)) {k : Nat} {x : Rg} {v : Ct} (hv : x.wr = true → RegOk P X Y F i j x v) :
    ∀ r, (updR S.regs k x r).wr = true → RegOk P X Y F i j (updR S.regs k x r) (updC f k v r) := by
  intro r
  unfold updR updC
  by_cases e : r = k
  · rw [if_pos e, if_pos e]; exact hv
  · rw [if_neg e, if_neg e]; exact h r
theorem CellOk.act {c : Cd} (hg : Gk c) {x y : List Int} {F : Nat → Ct} {i j : Nat} (hj : j ≤ y.length) {S : St} {M : Ms} (h : CellOk c x.length y.length F i j S M) {q : Qd} (hq : q ∈ c.cell) (he : errB c S q = 0) :
    CellOk c x.length y.length F i j (pastP S q) (actB c x y i j M q) := by
  obtain ⟨e1, e2, e3, e4⟩ := err_0 he
  have hn := hg.nam hq
  have hok := h.ok.act c x y i j q (hg.bit q hq)
  have hfr : ∀ k, (∀ p, p < c.planes.toNat → k ≠ placeB c.planes.toNat y.length p i j) → (actB c x y i j M q).slots k = F k := fun k hk => (act_frame c x y i j M q (hg.keepP q hq) k hk).trans (h.frame k hk)
  by_cases h1 : q.1 = 1
  · refine ⟨hok, ?_, hfr, ?_⟩
    · simp only [pastP, actB, h1]
      refine regs_upd h.regs fun _ => ?_
      exact reg_not rfl
    · simp only [pastP, actB, h1]
      exact h.kept
  by_cases h2 : q.1 = 2
  · refine ⟨hok, ?_, hfr, ?_⟩
    · simp only [pastP, actB, h2]
      refine regs_upd h.regs fun _ => ?_
      split
      · exact reg_zero fun _ => ⟨(by decide : (1 : Int) ≠ 0), fun h => absurd h (by decide)⟩
      · exact reg_not rfl
    · simp only [pastP, actB, h2]
      exact h.kept
  by_cases h3 : q.1 = 3
  · refine ⟨hok, ?_, hfr, ?_⟩
    · simp only [pastP, actB, h3]
      refine regs_upd h.regs fun _ => reg_zero fun hh => ?_
      show opn _ _ _ _ _ _ ((loadB S q.2.2.1 q.2.2.2).kind, (loadB S q.2.2.1 q.2.2.2).plane, (loadB S q.2.2.1 q.2.2.2).step)
      unfold loadB
      split
      · exact ⟨(by decide : (3 : Int) ≠ 0), fun h => absurd (show (3 : Int) = 2 from h) (by decide)⟩
      · rename_i h0
        refine ⟨(by decide : (2 : Int) ≠ 0), fun _ => ?_⟩
        have hs : 1 ≤ q.2.2.2 ∧ q.2.2.2 ≤ 3 := by
          have := hn.2.2.2
          rw [h3] at this
          have e : (limB c 3).2.2 = 4 := rfl
          rw [e] at this
          omega
        have HO := at_other (X := x.length) hj h.frame q.2.2.1 ((i : Int) - (backB q.2.2.2).1) ((j : Int) - (backB q.2.2.2).2) (by have := back_lex hs; omega)
        show (atB c.planes.toNat x.length y.length F q.2.2.1 ((i : Int) - (backB q.2.2.2).1) ((j : Int) - (backB q.2.2.2).2)).has = true
        rw [← HO]
        exact hh
    · simp only [pastP, actB, h3]
      exact h.kept
  by_cases h45 : q.1 = 4 ∨ q.1 = 5
  · have hwr : (S.regs q.2.1.toNat).wr = true := by
      rcases h45 with e | e <;> (simp only [rdB, e] at e2; simpa using e2)
    have hR := h.regs _ hwr
    have hid : ∀ r, (updR S.regs q.2.1.toNat (addB (S.regs q.2.1.toNat)) r).wr = true → RegOk c.planes.toNat x.length y.length F i j (updR S.regs q.2.1.toNat (addB (S.regs q.2.1.toNat)) r) (M.regs r) := by
      intro r
      unfold updR
      by_cases e : r = q.2.1.toNat
      · rw [if_pos e]; intro _; subst e; exact ⟨hR.ways, hR.none, hR.new⟩
      · rw [if_neg e]; exact h.regs r
    have hset : ∀ n : Int, ∀ r, (updR S.regs q.2.1.toNat (addB (S.regs q.2.1.toNat)) r).wr = true → RegOk c.planes.toNat x.length y.length F i j (updR S.regs q.2.1.toNat (addB (S.regs q.2.1.toNat)) r) (updC M.regs q.2.1.toNat ⟨(M.regs q.2.1.toNat).has, (M.regs q.2.1.toNat).mask, n⟩ r) := fun n =>
      regs_upd h.regs fun _ => ⟨hR.ways, hR.none, hR.new⟩
    have hoff : ∀ (m n : Int), ∀ r, (updR S.regs q.2.1.toNat (addB (S.regs q.2.1.toNat)) r).wr = true → RegOk c.planes.toNat x.length y.length F i j (updR S.regs q.2.1.toNat (addB (S.regs q.2.1.toNat)) r) (updC M.regs q.2.1.toNat ⟨false, m, n⟩ r) := fun m n =>
      regs_upd h.regs fun _ => reg_not rfl
    have hp : pastP S q = weighP (setR S q.2.1.toNat (addB (S.regs q.2.1.toNat))) ((S.regs q.2.1.toNat).weight + 1) := by
      unfold pastP; rw [if_neg h1, if_neg h2, if_neg h3, if_pos h45]
    rw [hp]
    refine ⟨hok, ?_, hfr, ?_⟩
    · rcases h45 with e | e
      · simp only [actB, e]
        show ∀ r, _ → RegOk _ _ _ _ _ _ _ ((if (M.regs q.2.1.toNat).has then _ else M.regs : Nat → Ct) r)
        split
        · exact hset _
        · exact hid
      · have e0 : actB c x y i j M q = if i = 0 ∨ j = 0 then { M with regs := updC M.regs q.2.1.toNat ⟨false, (M.regs q.2.1.toNat).mask, 0⟩ } else { M with regs := if (M.regs q.2.1.toNat).has then updC M.regs q.2.1.toNat ⟨(M.regs q.2.1.toNat).has, (M.regs q.2.1.toNat).mask, wrap64 ((M.regs q.2.1.toNat).num + c.table.getD (x.getD (i - 1) 0 * c.letters + y.getD (j - 1) 0).toNat 0)⟩ else M.regs } := by
          unfold actB
          rw [if_neg h1, if_neg h2, if_neg h3, if_neg (by omega), if_pos e]
        rw [e0]
        split
        · exact hoff _ _
        · show ∀ r, _ → RegOk _ _ _ _ _ _ _ ((if (M.regs q.2.1.toNat).has then _ else M.regs : Nat → Ct) r)
          split
          · exact hset _
          · exact hid
    · have e0 : (actB c x y i j M q).slots = M.slots := by
        unfold actB
        rw [if_neg h1, if_neg h2, if_neg h3]
        rcases h45 with e | e
        · rw [if_pos e]
        · rw [if_neg (by omega), if_pos e]
          show (if i = 0 ∨ j = 0 then _ else _ : Ms).slots = _
          split <;> rfl
      rw [e0]
      exact h.kept
  have h4 : q.1 ≠ 4 := fun e => h45 (Or.inl e)
  have h5 : q.1 ≠ 5 := fun e => h45 (Or.inr e)
  by_cases h6 : q.1 = 6
  · have hw : (S.regs q.2.1.toNat).wr = true ∧ (S.regs q.2.2.1.toNat).wr = true := by
      simp only [rdB, h6] at e2; simpa using e2
    have hr : 0 ≤ q.2.2.2 ∧ q.2.2.2 < 16 := ⟨hn.2.2.2.1, hg.bit q hq h6⟩
    refine ⟨hok, ?_, hfr, ?_⟩
    · simp only [pastP, actB, h6]
      exact regs_upd h.regs fun _ => reg_meet (h.regs _ hw.1) (h.regs _ hw.2) hr
    · simp only [pastP, actB, h6]
      exact h.kept
  by_cases h7 : q.1 = 7
  · have hwr : (S.regs q.2.2.1.toNat).wr = true := by
      simp only [rdB, h7] at e2; simpa using e2
    have hR := h.regs _ hwr
    have hp7 := hg.keepP q hq h7
    refine ⟨hok, ?_, hfr, ?_⟩
    · simp only [pastP, actB, h7]
      exact h.regs
    · simp only [pastP, actB, h7]
      show ∀ p, 1 ≤ p → p < c.planes.toNat → (updP S.pl q.2.1.toNat (true, (S.regs q.2.2.1.toNat).weight) p).1 = true → Kept c x.length y.length F p i j (updC M.slots (placeB c.planes.toNat y.length q.2.1.toNat i j) (if (M.regs q.2.2.1.toNat).has then M.regs q.2.2.1.toNat else ct0) (placeB c.planes.toNat y.length p i j))
      intro p p1 p2
      by_cases e : p = q.2.1.toNat
      · subst e
        intro _
        rw [updC_same]
        cases hh : (M.regs q.2.2.1.toNat).has with
        | false => exact ⟨by simp [ct0], fun b hb => by simp [ct0] at hb⟩
        | true =>
          have hgd : comB (S.regs q.2.2.1.toNat) q.2.1 c.arrows = true := by
            simp only [gdB, h7] at e4
            have hne : q.2.1 ≠ 0 := fun e => by rw [e] at p1; simp at p1
            simpa [hne] using e4
          simp only [comB, Bool.and_eq_true, beq_iff_eq, List.all_eq_true, List.any_eq_true] at hgd
          obtain ⟨g1, g2⟩ := hgd
          have hnz : (M.regs q.2.2.1.toNat).mask ≠ 0 := fun h0 => by
            have := (hR.none hh h0).1
            exact this g1
          refine ⟨by simp only [if_true]; rw [hh]; simp [hnz], fun b hb => ?_⟩
          obtain ⟨w, w1, w2, w3⟩ := hR.ways hh b (by simpa using hb)
          obtain ⟨a, a1, a2, a3⟩ := g2 w w1
          simp only [folB, Bool.and_eq_true, decide_eq_true_eq, beq_iff_eq] at a3
          have hq0 : (q.2.1.toNat : Int) = q.2.1 := by have := hn.2.1.1; omega
          refine ⟨a, a1, by rw [hq0]; exact a2, by rw [← a3.2]; exact w2, ?_⟩
          have := w3.2
          rw [a3.1] at this
          exact this rfl
      · rw [updP_ne _ _ e, updC_ne _ _ (fun e' => e (place_inj p2 hp7 hj hj e').1)]
        exact h.kept p p1 p2
  · have h8 : q.1 = 8 := by have := hn.1; omega
    have ea : (actB c x y i j M q).regs = M.regs ∧ (actB c x y i j M q).slots = M.slots := by
      unfold actB
      rw [if_neg h1, if_neg h2, if_neg h3, if_neg h4, if_neg h5, if_neg h6, if_neg h7]
      show (if _ then _ else M : Ms).regs = _ ∧ (if _ then _ else M : Ms).slots = _
      split <;> exact ⟨rfl, rfl⟩
    have ep : pastP S q = weighP S ((S.pl q.2.1.toNat).2 + 1) := by
      unfold pastP
      rw [if_neg h1, if_neg h2, if_neg h3, if_neg h45, if_neg h6, if_neg h7]
    rw [ep]
    refine ⟨hok, ?_, hfr, ?_⟩
    · rw [ea.1]; exact h.regs
    · rw [ea.2]; exact h.kept
theorem ar_go (pl : Int) : ∀ (l d : List Qd), arGo pl d l = true → (∀ a ∈ l, arwB pl a = true) ∧ (∀ a ∈ l, ∀ z ∈ d, ¬ (z.1 = a.1 ∧ z.2.1 = a.2.1)) ∧ l.Pairwise fun z a => ¬ (z.1 = a.1 ∧ z.2.1 = a.2.1)
  | [], _, _ => ⟨fun _ h => by simp at h, fun _ h => by simp at h, List.Pairwise.nil⟩
  | a :: l, d, h => by
    simp only [arGo, Bool.and_eq_true, Bool.not_eq_true'] at h
    obtain ⟨⟨h1, h2⟩, h3⟩ := h
    obtain ⟨i1, i2, i3⟩ := ar_go pl l (d ++ [a]) h3
    refine ⟨fun z hz => ?_, fun z hz t ht => ?_, List.pairwise_cons.2 ⟨fun z hz => i2 z hz a (by simp), i3⟩⟩
    · rcases List.mem_cons.1 hz with rfl | e
      · exact h1
      · exact i1 z e
    · rcases List.mem_cons.1 hz with rfl | e
      · intro he
        have : seenB d z.1 z.2.1 = true := by
          unfold seenB
          rw [List.any_eq_true]
          exact ⟨t, ht, by simp [he.1, he.2]⟩
        rw [this] at h2; cases h2
      · exact i2 z e t (by simp [ht])
theorem Gk.arw {c : Cd} (h : Gk c) {a : Qd} (ha : a ∈ c.arrows) : (1 ≤ a.1 ∧ a.1 < c.planes) ∧ (0 ≤ a.2.1 ∧ a.2.1 ≤ 15) ∧ (0 ≤ a.2.2.1 ∧ a.2.2.1 < c.planes) ∧ (1 ≤ a.2.2.2 ∧ a.2.2.2 ≤ 3) := by
  have := (ar_go c.planes c.arrows [] h.ars).1 a ha
  simp only [arwB, Bool.and_eq_true, inB_iff] at this
  omega
theorem pair_eq {α : Type} {R : α → α → Prop} (hs : ∀ a b, R a b → R b a) : ∀ {l : List α}, l.Pairwise (fun a b => ¬ R a b) → ∀ {a b : α}, a ∈ l → b ∈ l → R a b → a = b
  | [], _, _, _, h, _, _ => by simp at h
  | z :: l, hp, a, b, ha, hb, hr => by
    rw [List.pairwise_cons] at hp
    rcases List.mem_cons.1 ha with rfl | ha'
    · rcases List.mem_cons.1 hb with rfl | hb'
      · rfl
      · exact absurd hr (hp.1 b hb')
    · rcases List.mem_cons.1 hb with rfl | hb'
      · exact absurd (hs _ _ hr) (hp.1 a ha')
      · exact pair_eq hs hp.2 ha' hb' hr
/-- One arrow of a plane and a bit. -/
theorem Gk.one {c : Cd} (h : Gk c) {a b : Qd} (ha : a ∈ c.arrows) (hb : b ∈ c.arrows) (h1 : a.1 = b.1) (h2 : a.2.1 = b.2.1) : a = b :=
  pair_eq (R := fun z a : Qd => z.1 = a.1 ∧ z.2.1 = a.2.1) (fun _ _ h => ⟨h.1.symm, h.2.symm⟩) (ar_go c.planes c.arrows [] h.ars).2.2 ha hb ⟨h1, h2⟩
theorem Kept.congr {c : Cd} {X Y : Nat} {F G : Nat → Ct} {p i j : Nat} {R : Ct} (h : Kept c X Y F p i j R) (hFG : ∀ a ∈ c.arrows, atB c.planes.toNat X Y G a.2.2.1 ((i : Int) - (backB a.2.2.2).1) ((j : Int) - (backB a.2.2.2).2) = atB c.planes.toNat X Y F a.2.2.1 ((i : Int) - (backB a.2.2.2).1) ((j : Int) - (backB a.2.2.2).2)) : Kept c X Y G p i j R :=
  ⟨h.1, fun b hb => by
    obtain ⟨a, a1, a2, a3, a4⟩ := h.2 b hb
    exact ⟨a, a1, a2, a3, by rw [hFG a a1]; exact a4⟩⟩
/-- What is known of a run behind some cells. -/
structure RunK (c : Cd) (X Y : Nat) (pre : List (Nat × Nat)) (M : Ms) : Prop where
  ok : MOk M
  kept : ∀ u v, (u, v) ∈ pre → ∀ p, 1 ≤ p → p < c.planes.toNat → Kept c X Y M.slots p u v (M.slots (placeB c.planes.toNat Y p u v))
  off : ∀ u v p, v ≤ Y → p < c.planes.toNat → (u, v) ∉ pre → M.slots (placeB c.planes.toNat Y p u v) = ct0
theorem cell_kept {c : Cd} (hg : Gk c) {x y : List Int} {i j : Nat} (hj : j ≤ y.length) {M : Ms} (hM : MOk M) : CellOk c x.length y.length M.slots i j (goP c (st0 0) 0 c.cell).2 (c.cell.foldl (actB c x y i j) M) :=
  cell_sim c (actB c x y i j) (CellOk c x.length y.length M.slots i j) c.cell (st0 0) 0 M hg.go (fun _ hq _ _ he h => h.act hg hj hq he)
    ⟨hM, fun r hr => by simp [st0, rg0] at hr, fun _ _ => rfl, fun p _ _ hp => by simp [st0] at hp⟩
theorem run_kept {c : Cd} (hg : Gk c) (x y : List Int) : RunK c x.length y.length (cellsL c x.length y.length) (runM c x y) := by
  rw [runM_cells]
  refine cells_ind c x.length y.length (fun M p => cellM c x y p.1 p.2 M) ms0 (RunK c x.length y.length) ⟨MOk.start, fun u v h => by simp at h, fun _ _ _ _ _ _ => rfl⟩ ?_
  intro pre i j M hi hj hb hpre h
  have hc := cell_kept hg (x := x) (y := y) (i := i) hj h.ok
  have hfr : ∀ k, (∀ p, p < c.planes.toNat → k ≠ placeB c.planes.toNat y.length p i j) → (cellM c x y i j M).slots k = M.slots k := fun k hk => cell_frame hg x y i j M k hk
  have hat : ∀ (p u v : Int), u ≠ i ∨ v ≠ j → atB c.planes.toNat x.length y.length (cellM c x y i j M).slots p u v = atB c.planes.toNat x.length y.length M.slots p u v := fun p u v huv => at_other hj hfr p u v huv
  refine ⟨h.ok.cell hg x y i j, fun u v huv p p1 p2 => ?_, fun u v p hv hp huv => ?_⟩
  · rcases List.mem_append.1 huv with hm | hm
    · obtain ⟨⟨hu, hv, _⟩, hl⟩ := (hpre u v).1 hm
      have hne : ¬ (u = i ∧ v = j) := fun e => by unfold lexB at hl; omega
      show Kept c x.length y.length (cellM c x y i j M).slots p u v ((cellM c x y i j M).slots (placeB c.planes.toNat y.length p u v))
      rw [hfr _ fun p' hp' e => hne (place_inj p2 hp' hv hj e).2]
      refine (h.kept u v hm p p1 p2).congr fun a ha => hat _ _ _ ?_
      have := back_lex (hg.arw ha).2.2.2
      unfold lexB at hl
      omega
    · obtain ⟨rfl, rfl⟩ : u = i ∧ v = j := by simpa using hm
      have hk := hc.kept p p1 p2 (by
        have := hg.all
        unfold allK at this
        rw [List.all_eq_true] at this
        exact this p (List.mem_range.2 p2))
      refine Kept.congr (F := M.slots) hk fun a ha => hat _ _ _ ?_
      have := back_lex (hg.arw ha).2.2.2
      omega
  · have hne : ¬ (u = i ∧ v = j) := fun e => huv (by rw [e.1, e.2]; simp)
    rw [hfr _ fun p' hp' e => hne (place_inj hp hp' hv hj e).2]
    exact h.off u v p hv hp fun hm => huv (List.mem_append_left _ hm)
end Go.Proofs.YtnkfibahkmmnpaaGreat
