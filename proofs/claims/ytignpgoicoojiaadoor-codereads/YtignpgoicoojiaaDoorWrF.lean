/-
  The walks of written, Encode, and the document's Encode.
-/
import Derived.Test.YtignpgoicoojiaaDoorWrD
import Derived.Test.YtignpgoicoojiaaDoorRtC
namespace Go.Proofs.YtignpgoicoojiaaDoor
open Go.RowKit

theorem qsB_take {l : List Qd} {k : Nat} {q : Qd} (h : l[k]? = some q) : qsB (l.take (k + 1)) = qsB (l.take k) ++ numsB (q4 q) := by
  rw [List.take_add_one, h]
  simp [qsB]
theorem qsB_len : ∀ {l : List Qd}, (∀ q ∈ l, ∀ z ∈ q4 q, okN z) → (qsB l).length ≤ 36 * l.length
  | [], _ => by simp [qsB]
  | q :: l, h => by
    have h1 := numsB_len (h q (by simp))
    have h2 := qsB_len (l := l) (fun y hy => h y (by simp [hy]))
    have h3 : (q4 q).length = 4 := rfl
    rw [h3] at h1
    simp [qsB] at h2 ⊢; omega
theorem all_okN {lo hi : Int} {l : List Int} (h : allB lo hi l = true) (h1 : -1152921504606846976 ≤ lo) (h2 : hi ≤ 1152921504606846976) : ∀ z ∈ l, okN z := fun z hz => by
  have := inB_iff.1 (List.all_eq_true.1 h z hz)
  unfold okN; omega
/-- What a right code keeps to. -/
structure Rt (c : Cd) : Prop where
  head : 2 ≤ c.letters ∧ c.letters ≤ 20 ∧ 1 ≤ c.planes ∧ c.planes ≤ 10 ∧ 1 ≤ c.regs ∧ c.regs ≤ 16 ∧ 0 ≤ c.most ∧ c.most ≤ 65536 ∧ -65537 ≤ c.lo ∧ c.hi ≤ 65537 ∧ c.lo ≤ c.hi
  tlen : (c.table.length : Int) = c.letters * c.letters
  tl : c.table.length ≤ 400
  kl : c.consts.length ≤ 100
  cl : c.cell.length ≤ 1000
  al : c.arrows.length ≤ 160
  six : ∀ z ∈ [c.letters, c.planes, c.regs, c.lo, c.hi, c.most], okN z
  tb : ∀ z ∈ c.table, okN z
  ks : ∀ z ∈ c.consts, okN z
  cs : ∀ q ∈ c.cell, (1 ≤ q.1 ∧ q.1 ≤ 8) ∧ ∀ z ∈ q4 q, 0 ≤ z ∧ z ≤ 65535
  ar : ∀ q ∈ c.arrows, ∀ z ∈ q4 q, 0 ≤ z ∧ z ≤ 65535
theorem rt_of {c : Cd} (h : rightB c = true) : Rt c := by
  simp only [rightB, headB, listsB, cellB, arrowsB, Bool.and_eq_true, decide_eq_true_eq, inB_iff] at h
  obtain ⟨⟨⟨⟨⟨⟨⟨⟨h1, h2⟩, h3⟩, h4⟩, h5⟩, h6⟩, ⟨⟨t1, t2⟩, t3⟩, t4⟩, c1, c2⟩, a1, a2⟩ := h
  have h5' : (-65537 ≤ c.lo ∧ c.lo ≤ 65537) ∧ -65537 ≤ c.hi ∧ c.hi ≤ 65537 := by simpa [allB, inB_iff] using h5
  have hsq := sq_bd h1.1 h1.2
  refine ⟨⟨h1.1, h1.2, h2.1, h2.2, h3.1, h3.2, h4.1, h4.2, h5'.1.1, h5'.2.2, h6⟩, t1, by omega, t2, c1, a1, ?_, all_okN t3 (by decide) (by decide), all_okN t4 (by decide) (by decide), ?_, ?_⟩
  · intro z hz
    simp at hz
    unfold okN
    rcases hz with rfl | rfl | rfl | rfl | rfl | rfl <;> omega
  · intro q hq
    have := List.all_eq_true.1 c2 q hq
    simp [allB, inB_iff] at this
    refine ⟨this.1, fun z hz => ?_⟩
    simp [q4] at hz
    rcases hz with rfl | rfl | rfl | rfl <;> omega
  · intro q hq z hz
    exact inB_iff.1 (List.all_eq_true.1 (List.all_eq_true.1 a2 q hq) z hz)
theorem Rt.csN {c : Cd} (h : Rt c) : ∀ q ∈ c.cell, ∀ z ∈ q4 q, okN z := fun q hq z hz => by have := (h.cs q hq).2 z hz; unfold okN; omega
theorem Rt.arN {c : Cd} (h : Rt c) : ∀ q ∈ c.arrows, ∀ z ∈ q4 q, okN z := fun q hq z hz => by have := h.ar q hq z hz; unfold okN; omega
def b1 (c : Cd) : List UInt8 := numsB [c.letters, c.planes, c.regs, c.lo, c.hi, c.most]
def b2 (c : Cd) : List UInt8 := b1 c ++ numsB c.table
def b3 (c : Cd) : List UInt8 := b2 c ++ numsB [(c.consts.length : Int)]
def b4 (c : Cd) : List UInt8 := b3 c ++ numsB c.consts
def b5 (c : Cd) : List UInt8 := b4 c ++ numsB [(c.cell.length : Int)]
def b6 (c : Cd) : List UInt8 := b5 c ++ qsB c.cell
def b7 (c : Cd) : List UInt8 := b6 c ++ numsB [(c.arrows.length : Int)]
theorem b8 (c : Cd) : bodyB c = b7 c ++ qsB c.arrows := rfl
theorem okN_len {n : Nat} (h : n ≤ 1000) : ∀ z ∈ [(n : Int)], okN z := by
  intro z hz; simp at hz; subst hz; unfold okN; omega
theorem one_len {n : Nat} (h : n ≤ 1000) : (numsB [(n : Int)]).length ≤ 9 := numsB_len (okN_len h)
theorem Rt.lens {c : Cd} (h : Rt c) : (b1 c).length ≤ 100 ∧ (b2 c).length ≤ 4000 ∧ (b3 c).length ≤ 4100 ∧ (b4 c).length ≤ 5100 ∧ (b5 c).length ≤ 5200 ∧ (b6 c).length ≤ 42000 ∧ (b7 c).length ≤ 42100 ∧ (bodyB c).length ≤ 50000 := by
  have h1 := numsB_len h.six
  have h2 := numsB_len h.tb
  have h3 := numsB_len h.ks
  have h4 := qsB_len h.csN
  have h5 := qsB_len h.arN
  have h6 := one_len (n := c.consts.length) (by have := h.kl; omega)
  have h7 := one_len (n := c.cell.length) h.cl
  have h8 := one_len (n := c.arrows.length) (by have := h.al; omega)
  have := h.tl; have := h.kl; have := h.cl; have := h.al
  simp only [b8, b7, b6, b5, b4, b3, b2, b1, List.length_append] at *
  simp only [List.length_cons, List.length_nil] at h1
  omega
theorem owned_mono {w : World} {B B2 n : Nat} {t : TypeId} {size : Nat} {v : Value} {xs : List Value} (h : w.ownsRow B2 t size v n xs) (hB : B ≤ B2) : w.ownsRow B t size v n xs := by
  refine ⟨h.1, ?_⟩
  rcases h.2 with h1 | ⟨g, cap, cur, h1, h2, h3⟩
  · exact .inl h1
  · exact .inr ⟨g, cap, cur, h1, Nat.le_trans hB h2, h3⟩
theorem BufAt.two {B : Nat} {acc acc2 : List UInt8} {v v2 : Value} {w1 wr w2 w3 : World} (h : BufAt B acc v w1 wr) (hw : Below B wr w2) (h2 : BufAt B acc2 v2 w2 w3) : BufAt B acc2 v2 w1 w3 := ⟨h2.1, (h.2.trans hw).trans h2.2⟩
theorem below_one {B : Nat} {w : World} (hB : B ≤ w.heap.size) (o : Obj) : Below B w (w.alloc o) := (Below.refl B w).alloc hB o
theorem below_al2 {B : Nat} {w : World} (hB : B ≤ w.heap.size) (o o2 : Obj) : Below B w ((w.alloc o).alloc o2) := (below_one hB o).alloc (by simp; omega) o2
end Go.Proofs.YtignpgoicoojiaaDoor
