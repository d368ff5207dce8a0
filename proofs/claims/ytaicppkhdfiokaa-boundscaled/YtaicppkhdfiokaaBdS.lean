/-
  A model with all its numbers so many times what they were, in plain numbers.
-/
import Derived.Test.YtaicppkhdfiokaaBdP
namespace Go.Proofs.Ytaicppkhdfiokaa

def mulG (t : Int) (g : Int × Int) : Int × Int := (g.1 * t, g.2 * t)
def sM (m : Md) (t : Int) : Md := ⟨m.letters, m.subst.map (· * t), m.gaps.map (mulG t), m.mode, false, 0, 0, m.front * t, m.back * t, 0⟩

theorem mul_le {a b t : Int} (h : a ≤ b) (ht : 0 ≤ t) : a * t ≤ b * t := Int.mul_le_mul_of_nonneg_right h ht
theorem max_mul (a b t : Int) (ht : 0 ≤ t) : max a b * t = max (a * t) (b * t) := by
  rcases Int.le_total a b with h | h
  · have := mul_le h ht; rw [Int.max_eq_right h, Int.max_eq_right this]
  · have := mul_le h ht; rw [Int.max_eq_left h, Int.max_eq_left this]
theorem wmax_mul (w n t : Int) (ht : 0 ≤ t) : wmax w n * t = wmax (w * t) (n * t) := by
  unfold wmax
  rw [max_mul _ _ _ ht, max_mul _ _ _ ht, Int.neg_mul]
theorem wfold_mul (t : Int) (ht : 0 ≤ t) (l : List Int) : ∀ w : Int, (l.map (· * t)).foldl wmax (w * t) = l.foldl wmax w * t := by
  induction l with
  | nil => intro w; rfl
  | cons n r ih => intro w; simp only [List.map_cons, List.foldl_cons]; rw [← wmax_mul _ _ _ ht]; exact ih _
theorem widN_mul (t : Int) (ht : 0 ≤ t) (l : List Int) : widN (l.map (· * t)) = widN l * t := by
  have := wfold_mul t ht l 0
  rw [Int.zero_mul] at this
  exact this
theorem widG_mul (t : Int) (ht : 0 ≤ t) (l : List (Int × Int)) : ∀ w : Int, widG (l.map (mulG t)) (w * t) = widG l w * t := by
  induction l with
  | nil => intro w; rfl
  | cons g r ih =>
    intro w
    have := ih (max w (g.1 + g.2))
    unfold widG at this ⊢
    simp only [List.map_cons, List.foldl_cons]
    rw [← this, max_mul _ _ _ ht, Int.add_mul]
    rfl
theorem widG_max (a : Int) (l : List (Int × Int)) : ∀ b : Int, widG l (max a b) = max a (widG l b) := by
  induction l with
  | nil => intro b; rfl
  | cons g r ih =>
    intro b
    have := ih (max b (g.1 + g.2))
    unfold widG at this ⊢
    simp only [List.foldl_cons]
    rw [show max (max a b) (g.1 + g.2) = max a (max b (g.1 + g.2)) by omega]
    exact this
/-- The widest of a model's own numbers. -/
def wid1 (m : Md) : Int := widG m.gaps (max (max m.front m.back) (widN m.subst))
theorem wid_one (m : Md) (hf : 0 ≤ m.front) (hb : 0 ≤ m.back) : wid m = max 1 (wid1 m) := by
  show widG m.gaps (wid0 m) = _
  rw [wid0_eq m hf hb, show max (max (max 1 m.front) m.back) (widN m.subst) = max 1 (max (max m.front m.back) (widN m.subst)) by omega, widG_max]
  rfl
theorem wid1_mul (m : Md) (t : Int) (ht : 0 ≤ t) : wid1 (sM m t) = wid1 m * t := by
  unfold wid1 sM
  simp only
  rw [widN_mul t ht, ← max_mul _ _ _ ht, ← max_mul _ _ _ ht, widG_mul t ht]
theorem wfold_ge (l : List Int) : ∀ v : Int, v ≤ l.foldl wmax v := by
  induction l with
  | nil => intro v; exact Int.le_refl _
  | cons y t iht =>
    intro v
    have := iht (wmax v y)
    have : v ≤ wmax v y := by unfold wmax; omega
    simp only [List.foldl_cons]
    omega
theorem widG_ge (l : List (Int × Int)) : ∀ v : Int, v ≤ widG l v := by
  induction l with
  | nil => intro v; exact Int.le_refl _
  | cons y t iht =>
    intro v
    have := iht (max v (y.1 + y.2))
    unfold widG at this ⊢
    simp only [List.foldl_cons]
    omega
theorem widN_zero (l : List Int) (h : ∀ n ∈ l, n = 0) : widN l = 0 := by
  have := widN_bd l 0 (by omega) (fun n hn => by have := h n hn; omega)
  omega

def someS (m : Md) (k : Nat) : Bool := decide (0 < m.front) || decide (0 < m.back) || (m.subst.take k).any (fun n => n != 0)
def someG (m : Md) (k : Nat) : Bool := someS m m.subst.length || (m.gaps.take k).any (fun g => decide (0 < g.1 + g.2))
theorem someS_zero (m : Md) : someS m 0 = (decide (0 < m.front) || decide (0 < m.back)) := by simp [someS]
theorem someS_snoc (m : Md) (k : Nat) (z : Int) (h : m.subst[k]? = some z) : someS m (k + 1) = (someS m k || (z != 0)) := by
  unfold someS
  rw [take_snocD _ _ _ h, List.any_append]
  simp [Bool.or_assoc]
theorem someS_all (m : Md) (k : Nat) (h : m.subst.length ≤ k) : someS m k = someS m m.subst.length := by
  unfold someS
  rw [List.take_of_length_le h, List.take_length]
theorem someG_zero (m : Md) : someG m 0 = someS m m.subst.length := by simp [someG]
theorem someG_snoc (m : Md) (k : Nat) (g : Int × Int) (h : m.gaps[k]? = some g) : someG m (k + 1) = (someG m k || decide (0 < g.1 + g.2)) := by
  unfold someG
  rw [take_snocD _ _ _ h, List.any_append]
  simp [Bool.or_assoc]
theorem someG_all (m : Md) (k : Nat) (h : m.gaps.length ≤ k) : someG m k = someG m m.gaps.length := by
  unfold someG
  rw [List.take_of_length_le h, List.take_length]
theorem some_wid {m : Md} (hr : RightM m) : (someG m m.gaps.length = true → 1 ≤ wid1 m) ∧ (someG m m.gaps.length = false → wid1 m = 0) := by
  have hf := hr.front
  have hb := hr.back
  have hS := hr.widS
  have hge := widG_ge m.gaps (max (max m.front m.back) (widN m.subst))
  constructor
  · intro h
    unfold someG someS at h
    rw [List.take_length, List.take_length] at h
    simp only [Bool.or_eq_true, decide_eq_true_eq, List.any_eq_true] at h
    unfold wid1
    rcases h with ((h | h) | ⟨n, hn, h⟩) | ⟨g, hg, h⟩
    · omega
    · omega
    · have := widN_mem m.subst n hn
      have : n ≠ 0 := by simpa using h
      omega
    · have := widG_mem m.gaps (max (max m.front m.back) (widN m.subst)) g hg
      omega
  · intro h
    unfold someG someS at h
    rw [List.take_length, List.take_length] at h
    simp only [Bool.or_eq_false_iff, decide_eq_false_iff_not, List.any_eq_false] at h
    obtain ⟨⟨⟨h1, h2⟩, h3⟩, h4⟩ := h
    have e1 : widN m.subst = 0 := widN_zero _ (fun n hn => by have := h3 n hn; simpa using this)
    have e2 := widG_le m.gaps (max (max m.front m.back) (widN m.subst)) 0 (by omega) (fun g hg => by have := h4 g hg; simp at this; omega)
    unfold wid1
    omega
theorem mul_bd {z t B : Int} (hB : 0 ≤ B) (h1 : -B ≤ z) (h2 : z ≤ B) (ht : 0 ≤ t) (ht2 : t ≤ 1000) : -(B * 1000) ≤ z * t ∧ z * t ≤ B * 1000 := by
  have a := mul_le h1 ht
  have b := mul_le h2 ht
  have c : B * t ≤ B * 1000 := Int.mul_le_mul_of_nonneg_left ht2 hB
  rw [Int.neg_mul] at a
  omega
theorem wid1_le {m : Md} (hr : RightM m) : wid1 m ≤ wid m := by rw [wid_one m hr.front.1 hr.back.1]; omega
theorem sub_le {m : Md} (hr : RightM m) {n : Int} (h : n ∈ m.subst) : n ≤ wid m ∧ -n ≤ wid m := by
  have a := widN_mem m.subst n h
  have b := widG_ge m.gaps (max (max m.front m.back) (widN m.subst))
  have c := wid1_le hr
  unfold wid1 at c
  omega
theorem gap_le {m : Md} (hr : RightM m) {g : Int × Int} (h : g ∈ m.gaps) : g.1 + g.2 ≤ wid m := by
  have a := widG_mem m.gaps (max (max m.front m.back) (widN m.subst)) g h
  have c := wid1_le hr
  unfold wid1 at c
  omega
theorem ends_le {m : Md} (hr : RightM m) : m.front ≤ wid m ∧ m.back ≤ wid m := by
  have b := widG_ge m.gaps (max (max m.front m.back) (widN m.subst))
  have c := wid1_le hr
  unfold wid1 at c
  omega
theorem sM_right {m : Md} (hr : rightM m = true) {t : Int} (h1 : 1 ≤ t) (h2 : t ≤ 1000) (hw : wid m ≤ 1099511627776) : rightM (sM m t) = true := by
  have R := rightM_out hr
  have hE := ends_le R
  have hf := R.front
  have hb := R.back
  have mb := fun {z : Int} (a : -1099511627776 ≤ z) (b : z ≤ 1099511627776) => mul_bd (z := z) (t := t) (B := 1099511627776) (by omega) a b (by omega) h2
  have f1 := mb (z := m.front) (by omega) (by omega)
  have f2 := mb (z := m.back) (by omega) (by omega)
  have f3 : 0 ≤ m.front * t := Int.mul_nonneg hf.1 (by omega)
  have f4 : 0 ≤ m.back * t := Int.mul_nonneg hb.1 (by omega)
  have hS : shapeB (sM m t) = true := by
    unfold shapeB sM
    simp only [List.length_map]
    exact decide_eq_true ⟨R.letters2, R.letters20, R.count, R.few, R.mode1, R.mode4⟩
  have hG : gapsB (sM m t).gaps = true := by
    unfold sM gapsB
    rw [List.all_eq_true]
    intro g hg
    obtain ⟨q, hq, rfl⟩ := List.mem_map.1 hg
    have a := R.gap q hq
    have b := gap_le R hq
    have c1 := mb (z := q.1) (by omega) (by omega)
    have c2 := mb (z := q.2) (by omega) (by omega)
    have c3 : 0 ≤ q.1 * t := Int.mul_nonneg a.1.1 (by omega)
    have c4 : 0 ≤ q.2 * t := Int.mul_nonneg a.2.1 (by omega)
    rw [fromB_two]
    unfold mulG
    exact decide_eq_true (by omega)
  have hU : fromB (-72057594037927936) (sM m t).subst = true := by
    unfold sM fromB
    rw [List.all_eq_true]
    intro n hn
    obtain ⟨q, hq, rfl⟩ := List.mem_map.1 hn
    have a := sub_le R hq
    have b := mb (z := q) (by omega) (by omega)
    exact decide_eq_true (by omega)
  have hF : fromB 0 [(sM m t).front, (sM m t).back] = true := by
    rw [fromB_two]
    unfold sM
    exact decide_eq_true (by simp only; omega)
  have hL : fromB (-72057594037927936) [(sM m t).least] = true := by
    rw [fromB_one]; exact decide_eq_true (by unfold sM; simp only; omega)
  have hB : bandB (sM m t) = true := by unfold bandB sM; simp
  unfold rightM numbersB
  rw [hS, hG, hF, hL, hU, hB]
  rfl
theorem most_anti {v u : Int} (h1 : 1 ≤ v) (h2 : v ≤ u) : most u ≤ most v := by
  have h0 : 0 ≤ 576460752303423488 / u := Int.ediv_nonneg (by omega) (by omega)
  have a := Int.ediv_mul_le 576460752303423488 (show u ≠ 0 by omega)
  have b : 576460752303423488 / u * v ≤ 576460752303423488 / u * u := Int.mul_le_mul_of_nonneg_left h2 h0
  have c : 576460752303423488 / u ≤ 576460752303423488 / v := (Int.le_ediv_iff_mul_le (by omega)).2 (by omega)
  unfold most
  omega
theorem sM_wid {m : Md} (hr : rightM m = true) {t : Int} (h1 : 1 ≤ t) (h2 : t ≤ 1000) :
    (someG m m.gaps.length = true → wid (sM m t) = wid m * t) ∧ (someG m m.gaps.length = false → wid (sM m t) = 1) ∧ most (wid (sM m t)) ≤ most (wid m) := by
  have R := rightM_out hr
  have hf := R.front
  have hb := R.back
  have e1 := wid_one m hf.1 hb.1
  have e2 := wid_one (sM m t) (Int.mul_nonneg hf.1 (by omega)) (Int.mul_nonneg hb.1 (by omega))
  rw [wid1_mul m t (by omega)] at e2
  obtain ⟨s1, s2⟩ := some_wid R
  have hm : ∀ (p : Int), 0 ≤ p → p ≤ p * t := fun p hp => by
    have := Int.mul_le_mul_of_nonneg_left h1 hp
    omega
  have h0 : 0 ≤ wid1 m := by
    cases hs : someG m m.gaps.length
    · rw [s2 hs]; omega
    · have := s1 hs; omega
  have h3 := hm _ h0
  refine ⟨fun h => ?_, fun h => ?_, ?_⟩
  · have := s1 h
    rw [e2, e1, show max 1 (wid1 m) = wid1 m by omega]
    omega
  · rw [e2, s2 h]; omega
  · exact most_anti (by omega) (by omega)
end Go.Proofs.Ytaicppkhdfiokaa
