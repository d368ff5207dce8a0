/-
  Between which numbers a legal path's worth lies.
-/
import Derived.Test.YtegndeefddlccabPrA
import Derived.Test.YtegndeefddlccabBdH
namespace Go.Proofs.Ytegndeefddlccab
open Go.RowKit

theorem widG_ge : ∀ (l : List (Int × Int)) (w : Int), w ≤ widG l w
  | [], w => Int.le_refl _
  | g :: l, w => by
    have := widG_ge l (max w (g.1 + g.2))
    show w ≤ widG l (max w (g.1 + g.2))
    omega
theorem wid_parts {m : Md} (h : RightM m) : m.front ≤ wid m ∧ m.back ≤ wid m ∧ (∀ n ∈ m.subst, n ≤ wid m ∧ -n ≤ wid m) ∧ (∀ g ∈ m.gaps, g.1 + g.2 ≤ wid m) := by
  have h0 := wid0_eq m h.front.1 h.back.1
  have h1 : wid0 m ≤ wid m := widG_ge m.gaps _
  refine ⟨by omega, by omega, fun n hn => ?_, fun g hg => widG_mem m.gaps _ g hg⟩
  have := widN_mem m.subst n hn
  omega
theorem sub_rng {m : Md} (h : RightM m) (xs ys : List Int) (i j : Int) : -wid m ≤ subB m xs ys i j ∧ subB m xs ys i j ≤ wid m := by
  have hw := h.wid
  unfold subB
  generalize (xs.getD (i - 1).toNat 0 * m.letters + ys.getD (j - 1).toNat 0).toNat = k
  by_cases hk : k < m.subst.length
  · have := (wid_parts h).2.2.1 _ (getD_mem (zs := m.subst) hk)
    omega
  · rw [show m.subst.getD k 0 = 0 by simp [List.getD, List.getElem?_eq_none (show m.subst.length ≤ k by omega)]]
    omega
theorem least_nn : ∀ (l : List (Int × Int)) (k a : Int), 0 ≤ a → 0 ≤ k → (∀ g ∈ l, 0 ≤ g.1 ∧ 0 ≤ g.2) → 0 ≤ l.foldl (fun a g => min a (lineB k g)) a
  | [], _, _, h, _, _ => h
  | g :: l, k, a, h, hk, hg => by
    refine least_nn l k _ ?_ hk (fun q hq => hg q (List.mem_cons_of_mem _ hq))
    have g0 := hg g List.mem_cons_self
    have : 0 ≤ g.2 * k := Int.mul_nonneg g0.2 hk
    show 0 ≤ min a (lineB k g)
    unfold lineB
    split <;> omega
theorem least_start : ∀ (l : List (Int × Int)) (k a : Int), l.foldl (fun a g => min a (lineB k g)) a ≤ a
  | [], _, _ => Int.le_refl _
  | g :: l, k, a => by
    have := least_start l k (min a (lineB k g))
    show l.foldl (fun a g => min a (lineB k g)) (min a (lineB k g)) ≤ a
    omega
theorem least_rng {m : Md} (h : RightM m) (hne : m.gaps ≠ []) {k : Int} (hk : 1 ≤ k) (hk2 : k ≤ 16) : 0 ≤ leastB k m.gaps ∧ leastB k m.gaps ≤ k * wid m := by
  have hg := h.gap
  have hw := h.wid
  refine ⟨least_nn _ _ _ (by omega) (by omega) (fun g hq => ⟨(hg g hq).1.1, (hg g hq).2.1⟩), ?_⟩
  match hm : m.gaps, hne with
  | g :: l, _ =>
    have hmem : g ∈ m.gaps := by rw [hm]; exact List.mem_cons_self
    have hq := (wid_parts h).2.2.2 g hmem
    have g0 := hg g hmem
    have h1 := least_start l k (min 2305843009213693953 (lineB k g))
    have h2 : lineB k g ≤ g.1 + g.2 * k := by
      unfold lineB
      split
      · exact Int.le_refl _
      · omega
    have h3 : g.1 * 1 ≤ g.1 * k := Int.mul_le_mul_of_nonneg_left hk g0.1.1
    have h4 : (g.1 + g.2) * k ≤ wid m * k := Int.mul_le_mul_of_nonneg_right hq (by omega)
    rw [Int.add_mul] at h4
    rw [Int.mul_comm (wid m) k] at h4
    show l.foldl (fun a g => min a (lineB k g)) (min 2305843009213693953 (lineB k g)) ≤ _
    omega
def cntM : List UInt8 → Int
  | [] => 0
  | c :: cs => (if c = 77 then 1 else 0) + cntM cs
theorem cntM_le : ∀ (cs : List UInt8), 0 ≤ cntM cs ∧ cntM cs ≤ sumD cs ∧ cntM cs ≤ sumO cs
  | [] => by simp [cntM, sumD, sumO]
  | c :: cs => by
    have h := cntM_le cs
    have h1 := dn_rng c
    have h2 := ov_rng c
    rw [cntM, sumD, sumO]
    split
    · next e => subst e; rw [show dnB 77 = 1 from rfl, show ovB 77 = 1 from rfl]; omega
    · omega
/-- Every step is one that may be. -/
theorem steps_go {m : Md} {nx ny : Nat} : ∀ (cols : List UInt8) (i j : Int), 0 ≤ i → i ≤ nx → 0 ≤ j → j ≤ ny → stepsB m nx ny i j cols = true → (∀ c ∈ cols, goB m c = true) ∧ i + sumD cols ≤ nx ∧ j + sumO cols ≤ ny
  | [], i, j, h1, h2, h3, h4, _ => ⟨by simp, by simp [sumD]; omega, by simp [sumO]; omega⟩
  | c :: cs, i, j, h1, h2, h3, h4, h => by
    rw [stepsB, Bool.and_eq_true, Bool.and_eq_true] at h
    obtain ⟨⟨hg, hh⟩, hs⟩ := h
    have hh2 : 0 ≤ i + dnB c ∧ i + dnB c ≤ nx ∧ 0 ≤ j + ovB c ∧ j + ovB c ≤ ny := by
      unfold hasB at hh
      rw [Bool.and_eq_true] at hh
      exact of_decide_eq_true hh.1
    obtain ⟨q1, q2, q3⟩ := steps_go cs _ _ hh2.1 hh2.2.1 hh2.2.2.1 hh2.2.2.2 hs
    refine ⟨fun d hd => ?_, by rw [sumD]; omega, by rw [sumO]; omega⟩
    rcases List.mem_cons.1 hd with rfl | hd
    · exact hg
    · exact q1 d hd
theorem len_sum {m : Md} : ∀ (cols : List UInt8), (∀ c ∈ cols, goB m c = true) → (cols.length : Int) ≤ sumD cols + sumO cols
  | [], _ => by simp [sumD, sumO]
  | c :: cs, h => by
    have h1 := len_sum cs (fun d hd => h d (List.mem_cons_of_mem _ hd))
    have h2 := go_adds (h c List.mem_cons_self)
    rw [sumD, sumO, List.length_cons]
    omega
theorem wGo_rng {m : Md} (h : RightM m) (xs ys : List Int) : ∀ (cols : List UInt8) (i j s g : Int), 0 ≤ g → g + cols.length ≤ 16 → (cols = [] → g = 0) → (∀ c ∈ cols, goB m c = true) → -(40 - (g + cols.length)) * wid m ≤ s → s ≤ (40 - (g + cols.length)) * wid m →
    s - (g + cols.length) * wid m ≤ (wGo m xs ys i j s g cols).1 ∧ (wGo m xs ys i j s g cols).1 ≤ s + cntM cols * wid m ∧ (wGo m xs ys i j s g cols).2 = j + sumO cols
  | [], i, j, s, g, h0, h1, h2, _, _, _ => by
    obtain rfl := h2 rfl
    simp [wGo, cntM, sumO]
  | c :: cs, i, j, s, g, h0, h1, h2, h3, h4, h5 => by
    have hw := h.wid
    have hc := h3 c List.mem_cons_self
    have hcs : ∀ d ∈ cs, goB m d = true := fun d hd => h3 d (List.mem_cons_of_mem _ hd)
    have hcm := (cntM_le cs).1
    have hsum : j + sumO (c :: cs) = j + ovB c + sumO cs := by rw [sumO, Int.add_assoc]
    rw [List.length_cons] at h1 h4 h5 ⊢
    obtain ⟨n, hn⟩ : ∃ n : Nat, cs.length = n := ⟨_, rfl⟩
    obtain ⟨W, hW⟩ : ∃ W, wid m = W := ⟨_, rfl⟩
    have p1 : (g + ((n + 1 : Nat) : Int)) * W = (g + n) * W + W := by rw [show g + ((n + 1 : Nat) : Int) = (g + n) + 1 by omega, Int.add_mul, Int.one_mul]
    have p2 : (40 - (g + ((n + 1 : Nat) : Int))) * W = (40 - (g + n)) * W - W := by rw [show 40 - (g + ((n + 1 : Nat) : Int)) = (40 - (g + n)) - 1 by omega, Int.sub_mul, Int.one_mul]
    have p2n : -(40 - (g + ((n + 1 : Nat) : Int))) * W = -((40 - (g + n)) * W) + W := by rw [Int.neg_mul, p2]; omega
    have p0 : (40 - (g + n)) * W ≤ 40 * W := Int.mul_le_mul_of_nonneg_right (by omega) (by omega)
    have p3 : 0 ≤ (40 - (g + n)) * W := Int.mul_nonneg (by omega) (by omega)
    rw [hn] at h1 h4 h5 ⊢
    rw [hW] at h4 h5 hw ⊢
    rw [p2n] at h4
    rw [p2] at h5
    rw [p1]
    rw [wGo]
    rcases goB_kinds hc with rfl | ⟨hk, hne⟩
    · rw [if_pos rfl]
      have hs := sub_rng h xs ys (i + dnB 77) (j + ovB 77)
      rw [hW] at hs
      generalize subB m xs ys (i + dnB 77) (j + ovB 77) = z at *
      have e : wrap64 (s + z) = s + z := by unfold wrap64; omega
      rw [e]
      by_cases hg : g = 0
      · have ih := wGo_rng h xs ys cs (i + dnB 77) (j + ovB 77) (s + z) g h0 (by omega) (fun _ => hg) hcs (by rw [hn, hW, Int.neg_mul]; omega) (by rw [hn, hW]; omega)
        rw [hn, hW] at ih
        rw [cntM, if_pos rfl, hsum]
        rw [show (1 + cntM cs) * W = W + cntM cs * W by rw [Int.add_mul, Int.one_mul]]
        refine ⟨by omega, by omega, ih.2.2⟩
      · by_cases hcn : cs = []
        · subst hcn
          subst hn
          have hg0 : 0 ≤ g * W := Int.mul_nonneg h0 (by omega)
          simp only [wGo, List.length_nil]
          rw [cntM, if_pos rfl, hsum, cntM, sumO]
          rw [show (g + ((0 : Nat) : Int)) * W = g * W by simp]
          refine ⟨by omega, by omega, by omega⟩
        · have ih := wGo_rng h xs ys cs (i + dnB 77) (j + ovB 77) (s + z) g h0 (by omega) (fun hh => absurd hh hcn) hcs (by rw [hn, hW, Int.neg_mul]; omega) (by rw [hn, hW]; omega)
          rw [hn, hW] at ih
          rw [cntM, if_pos rfl, hsum]
          rw [show (1 + cntM cs) * W = W + cntM cs * W by rw [Int.add_mul, Int.one_mul]]
          refine ⟨by omega, by omega, ih.2.2⟩
    · have hc77 : ¬ c = 77 := by rcases hk with rfl | rfl <;> decide
      rw [if_neg hc77]
      have hcnt : cntM (c :: cs) = cntM cs := by rw [cntM, if_neg hc77, Int.zero_add]
      rw [hcnt, hsum]
      by_cases hh : cs.head? = some c
      · rw [if_pos hh]
        have hcn : cs ≠ [] := by rintro rfl; cases hh
        have q1 : (g + 1 + n) * W = (g + n) * W + W := by rw [show g + 1 + (n : Int) = (g + n) + 1 by omega, Int.add_mul, Int.one_mul]
        have q2 : (40 - (g + 1 + n)) * W = (40 - (g + n)) * W - W := by rw [show 40 - (g + 1 + (n : Int)) = (40 - (g + n)) - 1 by omega, Int.sub_mul, Int.one_mul]
        have ih := wGo_rng h xs ys cs (i + dnB c) (j + ovB c) s (g + 1) (by omega) (by omega) (fun hz => absurd hz hcn) hcs (by rw [hn, hW, Int.neg_mul, q2]; omega) (by rw [hn, hW, q2]; omega)
        rw [hn, hW, q1] at ih
        exact ⟨ih.1, ih.2.1, ih.2.2⟩
      · rw [if_neg hh]
        have hl := least_rng h hne (k := g + 1) (by omega) (by omega)
        rw [hW] at hl
        generalize leastB (g + 1) m.gaps = z at *
        have q1 : (g + 1) * W = g * W + W := by rw [Int.add_mul, Int.one_mul]
        have q2 : (g + n) * W = g * W + n * W := Int.add_mul ..
        have q3 : (40 - (g + n)) * W = (40 - n) * W - g * W := by rw [show 40 - (g + (n : Int)) = (40 - n) - g by omega, Int.sub_mul]
        have q4 : 0 ≤ g * W := Int.mul_nonneg h0 (by omega)
        have q5 : (40 - (n : Int)) * W ≤ 40 * W := Int.mul_le_mul_of_nonneg_right (by omega) (by omega)
        have e : wrap64 (s - z) = s - z := by unfold wrap64; omega
        rw [e]
        have ih := wGo_rng h xs ys cs (i + dnB c) (j + ovB c) (s - z) 0 (by omega) (by omega) (fun _ => rfl) hcs (by rw [hn, hW, Int.zero_add, Int.neg_mul]; omega) (by rw [hn, hW, Int.zero_add]; omega)
        rw [hn, hW, Int.zero_add] at ih
        exact ⟨by omega, by omega, ih.2.2⟩
theorem worth_rng {m : Md} (h : RightM m) {xs ys : List Int} (hn : xs.length + ys.length ≤ 8) {p : Pt} (hp : allowsB m xs.length ys.length p = true) :
    -((xs.length : Int) + ys.length + 2) * wid m ≤ worthW m xs ys p ∧ worthW m xs ys p ≤ min (xs.length : Int) ys.length * wid m := by
  unfold allowsB at hp
  rw [Bool.and_eq_true, Bool.and_eq_true] at hp
  obtain ⟨⟨hh, _⟩, hs⟩ := hp
  have hh2 : 0 ≤ p.i ∧ p.i ≤ xs.length ∧ 0 ≤ p.j ∧ p.j ≤ ys.length := by
    unfold hasB at hh
    rw [Bool.and_eq_true] at hh
    exact of_decide_eq_true hh.1
  obtain ⟨g1, g2, g3⟩ := steps_go p.cols p.i p.j hh2.1 hh2.2.1 hh2.2.2.1 hh2.2.2.2 hs
  have hl := len_sum p.cols g1
  have hw := h.wid
  have hf := h.front
  have hb := h.back
  obtain ⟨w1, w2, _⟩ := wid_parts h
  have hc := cntM_le p.cols
  have hlen : (p.cols.length : Int) ≤ 8 := by omega
  obtain ⟨s0, hs0⟩ : ∃ s, (if 0 < p.j then - m.front else 0) = s := ⟨_, rfl⟩
  have hsr : -wid m ≤ s0 ∧ s0 ≤ 0 := by rw [← hs0]; split <;> omega
  obtain ⟨W, hW⟩ : ∃ W, wid m = W := ⟨_, rfl⟩
  have k1 : W ≤ (40 - ((0 : Int) + p.cols.length)) * W := by
    have := Int.mul_le_mul_of_nonneg_right (show (1 : Int) ≤ 40 - ((0 : Int) + p.cols.length) by omega) (show 0 ≤ W by omega)
    omega
  have r := wGo_rng h xs ys p.cols p.i p.j s0 0 (by omega) (by omega) (fun _ => rfl) g1 (by rw [hW, Int.neg_mul]; omega) (by rw [hW]; omega)
  unfold worthW
  simp only [hs0]
  generalize wGo m xs ys p.i p.j s0 0 p.cols = R at *
  rw [hW] at r hw w1 w2 hsr ⊢
  rw [Int.zero_add] at r
  have k2 : (p.cols.length : Int) * W ≤ ((xs.length : Int) + ys.length) * W := Int.mul_le_mul_of_nonneg_right (by omega) (by omega)
  have k3 : cntM p.cols * W ≤ min (xs.length : Int) ys.length * W := Int.mul_le_mul_of_nonneg_right (by omega) (by omega)
  have k4 : -((xs.length : Int) + ys.length + 2) * W = -(((xs.length : Int) + ys.length) * W) - 2 * W := by rw [Int.neg_mul, Int.add_mul]; omega
  have k5 : ((xs.length : Int) + ys.length) * W ≤ 8 * W := Int.mul_le_mul_of_nonneg_right (by omega) (by omega)
  have k6 : min (xs.length : Int) ys.length * W ≤ 8 * W := Int.mul_le_mul_of_nonneg_right (by omega) (by omega)
  rw [k4]
  split
  · rw [show wrap64 (R.1 - m.back) = R.1 - m.back by unfold wrap64; omega]
    constructor <;> omega
  · constructor <;> omega
end Go.Proofs.Ytegndeefddlccab
