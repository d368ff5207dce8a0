/-
  Models in plain numbers: whether they may be, their widest number, how long sequences may be.
-/
import Derived.WalkKit
namespace Go.Proofs.Ytegndeefddlccaa

structure Md where
  letters : Int
  subst : List Int
  gaps : List (Int × Int)
  mode : Int
  banded : Bool
  lo : Int
  hi : Int
  front : Int
  back : Int
  least : Int

def fromB (least : Int) (l : List Int) : Bool := l.all fun n => decide (least ≤ n ∧ n ≤ 72057594037927936)
theorem fromB_bad {least : Int} {l : List Int} (k : Nat) (hk : k < l.length) (h : l.getD k 0 < least ∨ 72057594037927936 < l.getD k 0) : fromB least l = false := by
  unfold fromB
  rw [List.all_eq_false]
  refine ⟨l[k], List.getElem_mem hk, ?_⟩
  simp only [List.getD, List.getElem?_eq_getElem hk, Option.getD_some] at h
  simp; omega
theorem fromB_all {least : Int} {l : List Int} (h : ∀ j, j < l.length → least ≤ l.getD j 0 ∧ l.getD j 0 ≤ 72057594037927936) : fromB least l = true := by
  unfold fromB
  rw [List.all_eq_true]
  intro n hn
  obtain ⟨j, hj, rfl⟩ := List.getElem_of_mem hn
  have := h j hj
  simp only [List.getD, List.getElem?_eq_getElem hj, Option.getD_some] at this
  simp; omega
theorem fromB_get {least : Int} {l : List Int} (h : fromB least l = true) (j : Nat) (hj : j < l.length) : least ≤ l.getD j 0 ∧ l.getD j 0 ≤ 72057594037927936 := by
  unfold fromB at h
  rw [List.all_eq_true] at h
  have := h _ (List.getElem_mem hj)
  simp only [List.getD, List.getElem?_eq_getElem hj, Option.getD_some]
  simpa using this
theorem fromB_two (least a b : Int) : fromB least [a, b] = decide ((least ≤ a ∧ a ≤ 72057594037927936) ∧ least ≤ b ∧ b ≤ 72057594037927936) := by
  simp [fromB, Bool.decide_and]
theorem fromB_one (least a : Int) : fromB least [a] = decide (least ≤ a ∧ a ≤ 72057594037927936) := by
  simp [fromB, Bool.decide_and]

def gapsB (l : List (Int × Int)) : Bool := l.all fun g => fromB 0 [g.1, g.2]
theorem gapsB_bad {l : List (Int × Int)} (k : Nat) (g : Int × Int) (hk : l[k]? = some g) (h : fromB 0 [g.1, g.2] = false) : gapsB l = false := by
  unfold gapsB
  rw [List.all_eq_false]
  exact ⟨g, List.mem_of_getElem? hk, by simp [h]⟩
theorem gapsB_all {l : List (Int × Int)} (h : ∀ (j : Nat) (g : Int × Int), l[j]? = some g → fromB 0 [g.1, g.2] = true) : gapsB l = true := by
  unfold gapsB
  rw [List.all_eq_true]
  intro g hg
  obtain ⟨j, hj⟩ := List.getElem?_of_mem hg
  exact h j g hj
theorem gapsB_get {l : List (Int × Int)} (h : gapsB l = true) (k : Nat) (g : Int × Int) (hk : l[k]? = some g) : (0 ≤ g.1 ∧ g.1 ≤ 72057594037927936) ∧ 0 ≤ g.2 ∧ g.2 ≤ 72057594037927936 := by
  unfold gapsB at h
  rw [List.all_eq_true] at h
  have := h g (List.mem_of_getElem? hk)
  rw [fromB_two] at this
  exact of_decide_eq_true this

def shapeB (m : Md) : Bool := decide (2 ≤ m.letters ∧ m.letters ≤ 20 ∧ (m.subst.length : Int) = m.letters * m.letters ∧ m.gaps.length ≤ 4 ∧ 1 ≤ m.mode ∧ m.mode ≤ 4)
def bandB (m : Md) : Bool := if m.banded then fromB (-72057594037927936) [m.lo, m.hi] && decide (m.lo ≤ m.hi) else decide (m.lo = 0 ∧ m.hi = 0)
def numbersB (m : Md) : Bool := gapsB m.gaps && fromB 0 [m.front, m.back] && fromB (-72057594037927936) [m.least] && fromB (-72057594037927936) m.subst && bandB m
def rightM (m : Md) : Bool := shapeB m && numbersB m

def wmax (w n : Int) : Int := max w (max n (-n))
def widN (l : List Int) : Int := l.foldl wmax 0
def widG (l : List (Int × Int)) (w : Int) : Int := l.foldl (fun w g => max w (g.1 + g.2)) w
def wid (m : Md) : Int := widG m.gaps (widN [1, m.front, m.back, widN m.subst])
def most (w : Int) : Int := min 65536 (576460752303423488 / w - 2)

theorem take_snocD {α : Type} (l : List α) (k : Nat) (x : α) (h : l[k]? = some x) : l.take (k + 1) = l.take k ++ [x] := by
  obtain ⟨hk, e⟩ := List.getElem?_eq_some_iff.1 h
  rw [List.take_succ_eq_append_getElem hk, e]
theorem widN_snoc (l : List Int) (n : Int) : widN (l ++ [n]) = wmax (widN l) n := by simp [widN]
theorem widG_snoc (l : List (Int × Int)) (g : Int × Int) (w : Int) : widG (l ++ [g]) w = max (widG l w) (g.1 + g.2) := by simp [widG]
theorem wfold_le (l : List Int) : ∀ (w B : Int), 0 ≤ w → w ≤ B → (∀ n ∈ l, -B ≤ n ∧ n ≤ B) → w ≤ l.foldl wmax w ∧ l.foldl wmax w ≤ B := by
  induction l with
  | nil => intro w B h0 h _; exact ⟨Int.le_refl _, h⟩
  | cons n r ih =>
    intro w B h0 h hl
    have hn := hl n (by simp)
    have hw : w ≤ wmax w n ∧ wmax w n ≤ B := by unfold wmax; omega
    have := ih (wmax w n) B (by omega) hw.2 (fun x hx => hl x (by simp [hx]))
    simp only [List.foldl_cons]
    omega
theorem widN_bd (l : List Int) (B : Int) (hB : 0 ≤ B) (h : ∀ n ∈ l, -B ≤ n ∧ n ≤ B) : 0 ≤ widN l ∧ widN l ≤ B := wfold_le l 0 B (by omega) hB h
theorem wfold_mem (l : List Int) : ∀ (w n : Int), 0 ≤ w → n ∈ l → n ≤ l.foldl wmax w ∧ -n ≤ l.foldl wmax w := by
  induction l with
  | nil => intro w n _ h; simp at h
  | cons x r ih =>
    intro w n h0 h
    have h1 : w ≤ wmax w x := by unfold wmax; omega
    have h2 : ∀ (r : List Int) (v : Int), v ≤ r.foldl wmax v := by
      intro r
      induction r with
      | nil => intro v; exact Int.le_refl _
      | cons y t iht =>
        intro v
        have := iht (wmax v y)
        have : v ≤ wmax v y := by unfold wmax; omega
        simp only [List.foldl_cons]
        omega
    simp only [List.foldl_cons]
    rcases List.mem_cons.1 h with rfl | h
    · have := h2 r (wmax w n)
      have : n ≤ wmax w n ∧ -n ≤ wmax w n := by unfold wmax; omega
      omega
    · exact ih _ n (by omega) h
theorem widN_mem (l : List Int) (n : Int) (h : n ∈ l) : n ≤ widN l ∧ -n ≤ widN l := wfold_mem l 0 n (by omega) h
theorem widG_le (l : List (Int × Int)) : ∀ (w B : Int), w ≤ B → (∀ g ∈ l, g.1 + g.2 ≤ B) → w ≤ widG l w ∧ widG l w ≤ B := by
  induction l with
  | nil => intro w B h _; exact ⟨Int.le_refl _, h⟩
  | cons g r ih =>
    intro w B h hl
    have hg := hl g (by simp)
    have := ih (max w (g.1 + g.2)) B (by omega) (fun x hx => hl x (by simp [hx]))
    unfold widG at this ⊢
    simp only [List.foldl_cons]
    omega
theorem widG_mem (l : List (Int × Int)) : ∀ (w : Int) (g : Int × Int), g ∈ l → g.1 + g.2 ≤ widG l w := by
  induction l with
  | nil => intro w g h; simp at h
  | cons x r ih =>
    intro w g h
    have h2 : ∀ (r : List (Int × Int)) (v : Int), v ≤ widG r v := by
      intro r
      induction r with
      | nil => intro v; exact Int.le_refl _
      | cons y t iht =>
        intro v
        have := iht (max v (y.1 + y.2))
        unfold widG at this ⊢
        simp only [List.foldl_cons]
        omega
    rcases List.mem_cons.1 h with rfl | h
    · have := h2 r (max w (g.1 + g.2))
      unfold widG at this ⊢
      simp only [List.foldl_cons]
      omega
    · have := ih (max w (x.1 + x.2)) g h
      unfold widG at this ⊢
      simpa using this

theorem bool_and_split {a b : Bool} (h : (a && b) = true) : a = true ∧ b = true := by simpa using h
structure RightM (m : Md) : Prop where
  letters2 : 2 ≤ m.letters
  letters20 : m.letters ≤ 20
  count : (m.subst.length : Int) = m.letters * m.letters
  few : m.gaps.length ≤ 4
  mode1 : 1 ≤ m.mode
  mode4 : m.mode ≤ 4
  gaps : gapsB m.gaps = true
  front : 0 ≤ m.front ∧ m.front ≤ 72057594037927936
  back : 0 ≤ m.back ∧ m.back ≤ 72057594037927936
  least : fromB (-72057594037927936) [m.least] = true
  subst : fromB (-72057594037927936) m.subst = true
  band : bandB m = true
theorem rightM_out {m : Md} (h : rightM m = true) : RightM m := by
  unfold rightM numbersB at h
  obtain ⟨h1, h2⟩ := bool_and_split h
  obtain ⟨h2, h7⟩ := bool_and_split h2
  obtain ⟨h2, h6⟩ := bool_and_split h2
  obtain ⟨h2, h5⟩ := bool_and_split h2
  obtain ⟨h3, h4⟩ := bool_and_split h2
  rw [fromB_two] at h4
  have h4 := of_decide_eq_true h4
  have h1 := of_decide_eq_true h1
  exact ⟨h1.1, h1.2.1, h1.2.2.1, h1.2.2.2.1, h1.2.2.2.2.1, h1.2.2.2.2.2, h3, h4.1, h4.2, h5, h6, h7⟩
theorem RightM.substs {m : Md} (h : RightM m) : ∀ n ∈ m.subst, -72057594037927936 ≤ n ∧ n ≤ 72057594037927936 := by
  intro n hn
  obtain ⟨j, hj, rfl⟩ := List.getElem_of_mem hn
  have := fromB_get h.subst j hj
  simpa only [List.getD, List.getElem?_eq_getElem hj, Option.getD_some] using this
theorem RightM.gap {m : Md} (h : RightM m) : ∀ g ∈ m.gaps, (0 ≤ g.1 ∧ g.1 ≤ 72057594037927936) ∧ 0 ≤ g.2 ∧ g.2 ≤ 72057594037927936 := by
  intro g hg
  obtain ⟨j, hj⟩ := List.getElem?_of_mem hg
  exact gapsB_get h.gaps j g hj
def wid0 (m : Md) : Int := widN [1, m.front, m.back, widN m.subst]
theorem wid0_eq (m : Md) (hf : 0 ≤ m.front) (hb : 0 ≤ m.back) : wid0 m = max (max (max 1 m.front) m.back) (widN m.subst) := by
  have : 0 ≤ widN m.subst := by
    have h2 : ∀ (r : List Int) (v : Int), v ≤ r.foldl wmax v := by
      intro r
      induction r with
      | nil => intro v; exact Int.le_refl _
      | cons y t iht =>
        intro v
        have := iht (wmax v y)
        have : v ≤ wmax v y := by unfold wmax; omega
        simp only [List.foldl_cons]
        omega
    exact h2 m.subst 0
  unfold wid0
  show ([1, m.front, m.back, widN m.subst].foldl wmax 0) = _
  simp only [List.foldl_cons, List.foldl_nil, wmax]
  omega
theorem RightM.widS {m : Md} (h : RightM m) : 0 ≤ widN m.subst ∧ widN m.subst ≤ 72057594037927936 :=
  widN_bd _ _ (by omega) h.substs
theorem RightM.wid0 {m : Md} (h : RightM m) : 1 ≤ wid0 m ∧ wid0 m ≤ 72057594037927936 := by
  have := h.widS
  rw [wid0_eq m h.front.1 h.back.1]
  have := h.front
  have := h.back
  omega
theorem RightM.wid {m : Md} (h : RightM m) : 1 ≤ wid m ∧ wid m ≤ 144115188075855872 := by
  have h0 := h.wid0
  have := widG_le m.gaps (Ytegndeefddlccaa.wid0 m) 144115188075855872 (by omega) (fun g hg => by have := h.gap g hg; omega)
  show 1 ≤ widG m.gaps (Ytegndeefddlccaa.wid0 m) ∧ widG m.gaps (Ytegndeefddlccaa.wid0 m) ≤ _
  omega
theorem most_bd (w : Int) (h1 : 1 ≤ w) (h2 : w ≤ 144115188075855872) : 2 ≤ most w ∧ most w ≤ 65536 := by
  unfold most
  have : 4 ≤ 576460752303423488 / w := (Int.le_ediv_iff_mul_le (by omega)).2 (by omega)
  omega
end Go.Proofs.Ytegndeefddlccaa
