/-
  All paths, the best one and the model in memory; what is said of each path.
-/
import Derived.Test.YtegndeefddlccabPrB
import Derived.Test.YtegndeefddlccabPxA
namespace Go.Proofs.Ytegndeefddlccab
open Go.RowKit

theorem ptRow_get (l : List Pt) : ∀ (k : Nat) (p : Pt), l[k]? = some p → (ptRow l)[k * 3]? = some (.int .i64 p.i) ∧ (ptRow l)[k * 3 + 1]? = some (.int .i64 p.j) ∧ (ptRow l)[k * 3 + 2]? = some (.string (bs p.cols)) := by
  induction l with
  | nil => intro k p h; simp at h
  | cons q l ih =>
    intro k p h
    have e : ptRow (q :: l) = .int .i64 q.i :: .int .i64 q.j :: .string (bs q.cols) :: ptRow l := rfl
    rw [e]
    cases k with
    | zero => simp at h; subst h; exact ⟨rfl, rfl, rfl⟩
    | succ k =>
      have := ih k p (by simpa using h)
      rw [show (k + 1) * 3 = k * 3 + 3 by omega]
      exact this
structure RG (w : World) (mc : Array Value) (bf : Nat) (r : Int × Pt) (B : Nat) (va : Option Addr) (n vc : Nat) (P : List Pt) (wr : World) : Prop where
  low : Below w.heap.size w wr
  box : wr.heap[w.heap.size]? = some (.cells mc 25 (0, 0))
  fb : wr.heap[bf]? = some (.cells (fnC r) 34 (0, 0))
  row : wr.ownsRow B 32 3 (.slice va n vc) n (ptRow P)
theorem owned_on {w w2 : World} {base : Nat} {e : TypeId} {size : Nat} {v : Value} {n : Nat} {xs : List Value} (h : w.ownsRow base e size v n xs) (hb : Below w.heap.size w w2) : w2.ownsRow base e size v n xs := by
  refine ⟨h.1, ?_⟩
  rcases h.2 with h0 | ⟨g, cap, cur, hv, hbb, hc, hr⟩
  · exact .inl h0
  · exact .inr ⟨g, cap, cur, hv, hbb, by rw [hb.block _ (Array.getElem?_eq_some_iff.1 hc).1]; exact hc, hr⟩
section
variable {w : World} {mc : Array Value} {bf : Nat} {r : Int × Pt} {B : Nat} {va : Option Addr} {n vc : Nat} {P : List Pt} {wr : World}
theorem RG.next (h : RG w mc bf r B va n vc P wr) {w2 : World} (hb : Below wr.heap.size wr w2) : RG w mc bf r B va n vc P w2 :=
  ⟨h.low.trans (hb.mono h.low.size), by rw [hb.block _ (Array.getElem?_eq_some_iff.1 h.box).1]; exact h.box, by rw [hb.block _ (Array.getElem?_eq_some_iff.1 h.fb).1]; exact h.fb, owned_on h.row hb⟩
theorem RG.drew (h : RG w mc bf r B va n vc P wr) : RG w mc bf r B va n vc P wr.drew := h.next (Below.refl _ _).drew
theorem RG.drewN (h : RG w mc bf r B va n vc P wr) (k : Nat) : RG w mc bf r B va n vc P (wr.drewN k) := h.next (below_drewN (Below.refl _ _) k)
theorem RG.at (h : RG w mc bf r B va n vc P wr) {g : Nat} (hv : va = some ⟨g, 0, none⟩) {k : Nat} {p : Pt} (hk : P[k]? = some p) :
    wr.cell? ⟨g, k * 3, none⟩ = some (.int .i64 p.i) ∧ wr.cell? ⟨g, k * 3 + 1, none⟩ = some (.int .i64 p.j) ∧ wr.cell? ⟨g, k * 3 + 2, none⟩ = some (.string (bs p.cols)) := by
  obtain ⟨h1, h2, h3⟩ := ptRow_get P k p hk
  have hr : wr.ownsRow B 32 3 (.slice (some ⟨g, 0, none⟩) n vc) n (ptRow P) := by rw [← hv]; exact h.row
  exact ⟨row_cell hr rfl _ _ h1, row_cell hr rfl _ _ h2, row_cell hr rfl _ _ h3⟩
theorem RG.first (h : RG w mc bf r B va n vc P wr) (hn : 0 < n) : ∃ g, va = some ⟨g, 0, none⟩ := by
  rcases h.row.2 with ⟨hv, h0⟩ | ⟨g, cap, cur, hv, _⟩
  · omega
  · cases hv; exact ⟨g, rfl⟩
end
/-- What is said of a path among all. -/
structure Said (m : Md) (xs ys : List Int) (r : Int × Pt) (p : Pt) (N : Int) : Prop where
  sc : scE m xs ys p = 0 ∧ scV m xs ys p = N
  al : (decide (refE m xs ys = 0) && allowsB m xs.length ys.length p) = true
  lo : ranL m xs.length ys.length ≤ N
  hi : N ≤ ranH m xs.length ys.length
  most : N ≤ r.1
  first : N = r.1 → p = r.2 ∨ lessB r.2 p = true
theorem said_of {m : Md} {xs ys : List Int} (hs : shE m xs ys = 0) {r : Int × Pt} (hb : bestL m xs ys (pathsB m xs.length ys.length) = some r) {p : Pt} (hp : p ∈ pathsB m xs.length ys.length) : Said m xs ys r p (worthW m xs ys p) := by
  have h0 := shE_ref hs
  have hl := shE_len hs
  have hR := rightM_out (refE_ok h0).1
  have hal := (pathsB_ok hp).1
  have hw := worth_rng hR hl hal
  have he : ranE m xs.length ys.length = 0 := by
    have := h0
    unfold refE at this
    rw [if_pos (refE_ok h0).1, if_pos ⟨(refE_ok h0).2.1, (refE_ok h0).2.2⟩] at this
    split at this
    · next h => exact ran_ok (refE_ok h0).1 (by omega) (by omega) (by omega)
    · cases this
  have hF : FirstB m xs ys (pathsB m xs.length ys.length) r := by
    rcases best_first m xs ys _ _ rfl (paths_sorted (m := m) (nx := xs.length) (ny := ys.length) (by omega) (by omega)) with ⟨e, e2⟩ | ⟨r2, e, h⟩
    · rw [hb] at e2; cases e2
    · rw [hb] at e; cases e; exact h
  refine ⟨sc_yes h0 hal, by rw [h0, hal]; rfl, ?_, ?_, hF.most p hp, fun e => ?_⟩
  · unfold ranL; rw [if_pos he]; exact hw.1
  · unfold ranH; rw [if_pos he]; exact hw.2
  · by_cases hq : p = r.2
    · exact .inl hq
    · exact .inr (hF.first p hp e hq)
theorem ran_good {m : Md} {xs ys : List Int} (hs : shE m xs ys = 0) : ranE m xs.length ys.length = 0 := by
  have h0 := shE_ref hs
  have this := h0
  unfold refE at this
  rw [if_pos (refE_ok h0).1, if_pos ⟨(refE_ok h0).2.1, (refE_ok h0).2.2⟩] at this
  split at this
  · next h => exact ran_ok (refE_ok h0).1 (by omega) (by omega) (by omega)
  · cases this
theorem rises {m : Md} {nx ny : Nat} (hx : nx ≤ 1000) (hy : ny ≤ 1000) {k : Nat} {p q : Pt} (hq : (pathsB m nx ny)[k]? = some q) (hp : (pathsB m nx ny)[k + 1]? = some p) : lessB q p = true := by
  have h := paths_sorted (m := m) hx hy
  obtain ⟨h1, e1⟩ := List.getElem?_eq_some_iff.1 hq
  obtain ⟨h2, e2⟩ := List.getElem?_eq_some_iff.1 hp
  have := List.pairwise_iff_getElem.1 h k (k + 1) h1 h2 (by omega)
  rw [e1, e2] at this
  exact this
end Go.Proofs.Ytegndeefddlccab
