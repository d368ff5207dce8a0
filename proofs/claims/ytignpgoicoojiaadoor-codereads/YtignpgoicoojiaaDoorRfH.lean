/-
  What CodeReads keeps to: the first answer's box and rows, the second's box, what lies between.
-/
import Derived.Test.YtignpgoicoojiaaDoorRfG
import Derived.Test.YtignpgoicoojiaaDoorRdJ
namespace Go.Proofs.YtignpgoicoojiaaDoor
open Go.RowKit
def slV (s : Sl) : Value := .slice s.a s.n s.c
theorem row_store {W : World} {B : Nat} {e : TypeId} {size : Nat} {s : Sl} (h : ∃ xs, W.ownsRow B e size (slV s) s.n xs) (hn : 0 < s.n) {k : Nat} (hk : k < s.n * size) :
    ∃ g cs, s.a = some ⟨g, 0, none⟩ ∧ B ≤ g ∧ W.heap[g]? = some (.cells cs e (0, 0)) ∧ (∃ u, W.cell? ⟨g, k, none⟩ = some u) ∧ W.frozen? ⟨g, k, none⟩ = false ∧ ∀ x, ∃ xs, (W.setCell ⟨g, k, none⟩ x).ownsRow B e size (slV s) s.n xs := by
  obtain ⟨xs, hx⟩ := h
  obtain ⟨g, cap, hv, hb, _, _, _⟩ := owned_some hx hn
  obtain ⟨a, n, c⟩ := s
  unfold slV at hv hx ⊢
  simp only at hv hx hk ⊢
  injection hv with h1 h2 h3
  subst h1 h3
  have hl : k < xs.length := by have := hx.1; omega
  have hc := owned_cells hx k xs[k] (List.getElem?_eq_getElem hl)
  rcases hx.2 with ⟨hv, _⟩ | ⟨g', cap', cur, hv, _, hg, _⟩
  · cases hv
  · cases hv
    exact ⟨g, cur, rfl, hb, hg, ⟨_, hc.1⟩, hc.2, fun x => ⟨_, owned_set hx k x⟩⟩
theorem own_away {W V : World} {B : Nat} {e : TypeId} {size n : Nat} {v : Value} {xs : List Value} {r : Option Nat} (h : W.ownsRow B e size v n xs) (hg : W.grownBy V r) (hr : ∀ g, v.ownBlock = some g → r ≠ some g) : V.ownsRow B e size v n xs :=
  owned_of_block h fun g _ hv hc => hg.block g (lt_block hc) (fun e' => hr g hv e'.symm)
theorem own_ty {W : World} {B B2 : Nat} {e e2 : TypeId} {size size2 n n2 : Nat} {v v2 : Value} {xs xs2 : List Value} (h : W.ownsRow B e size v n xs) (h2 : W.ownsRow B2 e2 size2 v2 n2 xs2) (hne : e ≠ e2) : ∀ g, v.ownBlock = some g → v2.ownBlock ≠ some g := by
  intro g hv hv2
  rcases h.2 with ⟨hw, _⟩ | ⟨g1, _, cur, hw, _, hg, _⟩
  · rw [hw] at hv; cases hv
  rcases h2.2 with ⟨hw2, _⟩ | ⟨g2, _, cur2, hw2, _, hg2, _⟩
  · rw [hw2] at hv2; cases hv2
  rw [hw] at hv; rw [hw2] at hv2
  simp only [Value.ownBlock, Option.some.injEq] at hv hv2
  subst hv hv2
  rw [hg] at hg2
  injection hg2 with h3
  injection h3 with _ h4
  exact hne h4
/-- The first answer's code in its box and rows of its own; the other's box; what lies between stays. -/
structure Zw (w1 w3 : World) (b4 : Nat) (C : Cd) (s4 : Ls) (ds : Array Value) (W : World) : Prop where
  low : Below w1.heap.size w1 W
  h1 : w1.heap.size ≤ b4
  h2 : b4 < w3.heap.size
  h3 : w3.heap.size < W.heap.size
  bx4 : W.heap[b4]? = some (.cells (cdCells C s4) 26 (0, 0))
  bx6 : W.heap[w3.heap.size]? = some (.cells ds 26 (0, 0))
  hi : ∀ k, b4 < k → k < w3.heap.size → W.heap[k]? = w3.heap[k]?
  t : ∃ xs, W.ownsRow w1.heap.size 3 1 (slV s4.t) s4.t.n xs
  k : ∃ xs, W.ownsRow w1.heap.size 3 1 (slV s4.k) s4.k.n xs
  i : ∃ xs, W.ownsRow w1.heap.size 38 4 (slV s4.i) s4.i.n xs
  r : ∃ xs, W.ownsRow w1.heap.size 40 4 (slV s4.r) s4.r.n xs
  ap : ∀ g, (slV s4.t).ownBlock = some g → (slV s4.k).ownBlock ≠ some g
  up : ∀ g, (slV s4.t).ownBlock = some g ∨ (slV s4.k).ownBlock = some g ∨ (slV s4.i).ownBlock = some g ∨ (slV s4.r).ownBlock = some g → g < b4 ∨ w3.heap.size < g
section
variable {w1 w3 W V : World} {b4 : Nat} {C : Cd} {s4 : Ls} {ds : Array Value}
theorem Zw.cell4 (h : Zw w1 w3 b4 C s4 ds W) (k : Nat) {v : Value} (hv : (cdCells C s4)[k]? = some v) : W.cell? ⟨b4, k, none⟩ = some v := cell_block h.bx4 k _ hv
theorem Zw.fz4 (h : Zw w1 w3 b4 C s4 ds W) (k : Nat) : W.frozen? ⟨b4, k, none⟩ = false := frozen_of_row W b4 k _ _ h.bx4
theorem Zw.keep {r : Option Nat} (h : Zw w1 w3 b4 C s4 ds W) (hk : W.grownBy V r) (hr : ∀ g, r = some g → w1.heap.size ≤ g ∧ (g < b4 ∨ w3.heap.size < g)) :
    Below w1.heap.size w1 V ∧ w3.heap.size < V.heap.size ∧ V.heap[b4]? = some (.cells (cdCells C s4) 26 (0, 0)) ∧ V.heap[w3.heap.size]? = some (.cells ds 26 (0, 0)) ∧ ∀ k, b4 < k → k < w3.heap.size → V.heap[k]? = w3.heap[k]? := by
  have h2 := h.h2
  have h3 := h.h3
  refine ⟨h.low.grown hk h.low.size (fun g hg => (hr g hg).1), Nat.lt_of_lt_of_le h3 hk.size, ?_, ?_, fun k a b => ?_⟩
  · rw [hk.block _ (lt_block h.bx4) (fun e => by have := (hr b4 e.symm).2; omega)]; exact h.bx4
  · rw [hk.block _ (lt_block h.bx6) (fun e => by have := (hr _ e.symm).2; omega)]; exact h.bx6
  · rw [hk.block _ (by omega) (fun e => by have := (hr k e.symm).2; omega)]; exact h.hi k a b
theorem Zw.next (h : Zw w1 w3 b4 C s4 ds W) (hb : Below W.heap.size W V) : Zw w1 w3 b4 C s4 ds V := by
  obtain ⟨a1, a2, a3, a4, a5⟩ := h.keep (grown_below (r := none) hb) (fun g e => by cases e)
  obtain ⟨_, x1⟩ := h.t
  obtain ⟨_, x2⟩ := h.k
  obtain ⟨_, x3⟩ := h.i
  obtain ⟨_, x4⟩ := h.r
  exact ⟨a1, h.h1, h.h2, a2, a3, a4, a5, ⟨_, owned_below x1 hb⟩, ⟨_, owned_below x2 hb⟩, ⟨_, owned_below x3 hb⟩, ⟨_, owned_below x4 hb⟩, h.ap, h.up⟩
theorem Zw.stT (h : Zw w1 w3 b4 C s4 ds W) (hn : 0 < s4.t.n) {k : Nat} (hk : k < s4.t.n * 1) :
    ∃ g, s4.t.a = some ⟨g, 0, none⟩ ∧ (∃ u, W.cell? ⟨g, k, none⟩ = some u) ∧ W.frozen? ⟨g, k, none⟩ = false ∧ ∀ x, Zw w1 w3 b4 C s4 ds (W.setCell ⟨g, k, none⟩ x) := by
  obtain ⟨g, cs, ha, hB, hcs, hu, hf, hs⟩ := row_store h.t hn hk
  refine ⟨g, ha, hu, hf, fun x => ?_⟩
  have hgr : W.grownBy (W.setCell ⟨g, k, none⟩ x) (some g) := grown_set W g k x
  have hv0 : (slV s4.t).ownBlock = some g := by unfold slV; rw [ha]; rfl
  obtain ⟨a1, a2, a3, a4, a5⟩ := h.keep hgr (fun g2 e => by cases e; exact ⟨hB, h.up g (Or.inl hv0)⟩)
  obtain ⟨_, x1⟩ := h.t
  obtain ⟨_, x2⟩ := h.k
  obtain ⟨_, x3⟩ := h.i
  obtain ⟨_, x4⟩ := h.r
  exact ⟨a1, h.h1, h.h2, a2, a3, a4, a5, hs x, ⟨_, own_away x2 hgr (fun g2 hv e => by cases e; exact h.ap _ hv0 hv)⟩, ⟨_, own_kind x3 hcs (by decide) hgr⟩, ⟨_, own_kind x4 hcs (by decide) hgr⟩, h.ap, h.up⟩
theorem Zw.stK (h : Zw w1 w3 b4 C s4 ds W) (hn : 0 < s4.k.n) {k : Nat} (hk : k < s4.k.n * 1) :
    ∃ g, s4.k.a = some ⟨g, 0, none⟩ ∧ (∃ u, W.cell? ⟨g, k, none⟩ = some u) ∧ W.frozen? ⟨g, k, none⟩ = false ∧ ∀ x, Zw w1 w3 b4 C s4 ds (W.setCell ⟨g, k, none⟩ x) := by
  obtain ⟨g, cs, ha, hB, hcs, hu, hf, hs⟩ := row_store h.k hn hk
  refine ⟨g, ha, hu, hf, fun x => ?_⟩
  have hgr : W.grownBy (W.setCell ⟨g, k, none⟩ x) (some g) := grown_set W g k x
  have hv0 : (slV s4.k).ownBlock = some g := by unfold slV; rw [ha]; rfl
  obtain ⟨a1, a2, a3, a4, a5⟩ := h.keep hgr (fun g2 e => by cases e; exact ⟨hB, h.up g (Or.inr (Or.inl hv0))⟩)
  obtain ⟨_, x1⟩ := h.t
  obtain ⟨_, x2⟩ := h.k
  obtain ⟨_, x3⟩ := h.i
  obtain ⟨_, x4⟩ := h.r
  exact ⟨a1, h.h1, h.h2, a2, a3, a4, a5, ⟨_, own_away x1 hgr (fun g2 hv e => by cases e; exact h.ap _ hv hv0)⟩, hs x, ⟨_, own_kind x3 hcs (by decide) hgr⟩, ⟨_, own_kind x4 hcs (by decide) hgr⟩, h.ap, h.up⟩
theorem Zw.stI (h : Zw w1 w3 b4 C s4 ds W) (hn : 0 < s4.i.n) {k : Nat} (hk : k < s4.i.n * 4) :
    ∃ g, s4.i.a = some ⟨g, 0, none⟩ ∧ (∃ u, W.cell? ⟨g, k, none⟩ = some u) ∧ W.frozen? ⟨g, k, none⟩ = false ∧ ∀ x, Zw w1 w3 b4 C s4 ds (W.setCell ⟨g, k, none⟩ x) := by
  obtain ⟨g, cs, ha, hB, hcs, hu, hf, hs⟩ := row_store h.i hn hk
  refine ⟨g, ha, hu, hf, fun x => ?_⟩
  have hgr : W.grownBy (W.setCell ⟨g, k, none⟩ x) (some g) := grown_set W g k x
  have hv0 : (slV s4.i).ownBlock = some g := by unfold slV; rw [ha]; rfl
  obtain ⟨a1, a2, a3, a4, a5⟩ := h.keep hgr (fun g2 e => by cases e; exact ⟨hB, h.up g (Or.inr (Or.inr (Or.inl hv0)))⟩)
  obtain ⟨_, x1⟩ := h.t
  obtain ⟨_, x2⟩ := h.k
  obtain ⟨_, x3⟩ := h.i
  obtain ⟨_, x4⟩ := h.r
  exact ⟨a1, h.h1, h.h2, a2, a3, a4, a5, ⟨_, own_kind x1 hcs (by decide) hgr⟩, ⟨_, own_kind x2 hcs (by decide) hgr⟩, hs x, ⟨_, own_kind x4 hcs (by decide) hgr⟩, h.ap, h.up⟩
theorem Zw.stR (h : Zw w1 w3 b4 C s4 ds W) (hn : 0 < s4.r.n) {k : Nat} (hk : k < s4.r.n * 4) :
    ∃ g, s4.r.a = some ⟨g, 0, none⟩ ∧ (∃ u, W.cell? ⟨g, k, none⟩ = some u) ∧ W.frozen? ⟨g, k, none⟩ = false ∧ ∀ x, Zw w1 w3 b4 C s4 ds (W.setCell ⟨g, k, none⟩ x) := by
  obtain ⟨g, cs, ha, hB, hcs, hu, hf, hs⟩ := row_store h.r hn hk
  refine ⟨g, ha, hu, hf, fun x => ?_⟩
  have hgr : W.grownBy (W.setCell ⟨g, k, none⟩ x) (some g) := grown_set W g k x
  have hv0 : (slV s4.r).ownBlock = some g := by unfold slV; rw [ha]; rfl
  obtain ⟨a1, a2, a3, a4, a5⟩ := h.keep hgr (fun g2 e => by cases e; exact ⟨hB, h.up g (Or.inr (Or.inr (Or.inr hv0)))⟩)
  obtain ⟨_, x1⟩ := h.t
  obtain ⟨_, x2⟩ := h.k
  obtain ⟨_, x3⟩ := h.i
  obtain ⟨_, x4⟩ := h.r
  exact ⟨a1, h.h1, h.h2, a2, a3, a4, a5, ⟨_, own_kind x1 hcs (by decide) hgr⟩, ⟨_, own_kind x2 hcs (by decide) hgr⟩, ⟨_, own_kind x3 hcs (by decide) hgr⟩, hs x, h.ap, h.up⟩
theorem Zw.apT (h : Zw w1 w3 b4 C s4 ds W) {s : Sl} {xs : List Value} (ho : V.ownsRow w1.heap.size 3 1 (slV s) s.n xs) (hg : W.grownBy V (slV s4.t).ownBlock) (hnew : ∀ g, (slV s).ownBlock = some g → some g = (slV s4.t).ownBlock ∨ W.heap.size ≤ g) :
    V.cell? ⟨b4, 6, none⟩ = some (slV s4.t) ∧ V.frozen? ⟨b4, 6, none⟩ = false ∧ Zw w1 w3 b4 C { s4 with t := s } ds (V.setCell ⟨b4, 6, none⟩ (slV s)) := by
  obtain ⟨_, x1⟩ := h.t
  obtain ⟨_, x2⟩ := h.k
  obtain ⟨_, x3⟩ := h.i
  obtain ⟨_, x4⟩ := h.r
  obtain ⟨a1, a2, a3, a4, a5⟩ := h.keep hg (fun g e => ⟨(x1.lt g e).1, h.up g (Or.inl e)⟩)
  have ownb : ∀ {e : TypeId} {size n : Nat} {v : Value} {xs : List Value}, V.ownsRow w1.heap.size e size v n xs → e ≠ 26 → (V.setCell ⟨b4, 6, none⟩ (slV s)).ownsRow w1.heap.size e size v n xs := fun hh hne => owned_setOther hh a3 hne _
  have h1 := h.h1
  have h2 := h.h2
  refine ⟨cell_block a3 6 _ rfl, frozen_of_row V b4 6 _ _ a3, a1.setCell (p := ⟨b4, 6, none⟩) h1 _, h1, h2, by simpa using a2, ?_, ?_, fun k p q => ?_, ⟨_, ownb ho (by decide)⟩, ⟨_, ownb (own_away x2 hg (fun g2 hv e => h.ap g2 e hv)) (by decide)⟩, ⟨_, ownb (own_away x3 hg (fun g2 hv e => own_ty x1 x3 (by decide) g2 e hv)) (by decide)⟩, ⟨_, ownb (own_away x4 hg (fun g2 hv e => own_ty x1 x4 (by decide) g2 e hv)) (by decide)⟩, fun g hv hv2 => by
    rcases hnew g hv with e | e
    · exact h.ap g e.symm hv2
    · have := (x2.lt g hv2).2; omega, fun g hh => ?_⟩
  · rw [heap_setCell_same _ _ _ _ _ _ a3]; rfl
  · rw [Below.heap_setCell _ _ _ _ (by show w3.heap.size ≠ b4; omega)]; exact a4
  · rw [Below.heap_setCell _ _ _ _ (by show k ≠ b4; omega)]; exact a5 k p q
  · rcases hh with hv | hv | hv | hv
    · rcases hnew g hv with e | e
      · exact h.up g (Or.inl e.symm)
      · have := h.h3; omega
    · exact h.up g (Or.inr (Or.inl hv))
    · exact h.up g (Or.inr (Or.inr (Or.inl hv)))
    · exact h.up g (Or.inr (Or.inr (Or.inr hv)))
theorem Zw.apK (h : Zw w1 w3 b4 C s4 ds W) {s : Sl} {xs : List Value} (ho : V.ownsRow w1.heap.size 3 1 (slV s) s.n xs) (hg : W.grownBy V (slV s4.k).ownBlock) (hnew : ∀ g, (slV s).ownBlock = some g → some g = (slV s4.k).ownBlock ∨ W.heap.size ≤ g) :
    V.cell? ⟨b4, 7, none⟩ = some (slV s4.k) ∧ V.frozen? ⟨b4, 7, none⟩ = false ∧ Zw w1 w3 b4 C { s4 with k := s } ds (V.setCell ⟨b4, 7, none⟩ (slV s)) := by
  obtain ⟨_, x1⟩ := h.t
  obtain ⟨_, x2⟩ := h.k
  obtain ⟨_, x3⟩ := h.i
  obtain ⟨_, x4⟩ := h.r
  obtain ⟨a1, a2, a3, a4, a5⟩ := h.keep hg (fun g e => ⟨(x2.lt g e).1, h.up g (Or.inr (Or.inl e))⟩)
  have ownb : ∀ {e : TypeId} {size n : Nat} {v : Value} {xs : List Value}, V.ownsRow w1.heap.size e size v n xs → e ≠ 26 → (V.setCell ⟨b4, 7, none⟩ (slV s)).ownsRow w1.heap.size e size v n xs := fun hh hne => owned_setOther hh a3 hne _
  have h1 := h.h1
  have h2 := h.h2
  refine ⟨cell_block a3 7 _ rfl, frozen_of_row V b4 7 _ _ a3, a1.setCell (p := ⟨b4, 7, none⟩) h1 _, h1, h2, by simpa using a2, ?_, ?_, fun k p q => ?_, ⟨_, ownb (own_away x1 hg (fun g2 hv e => h.ap g2 hv e)) (by decide)⟩, ⟨_, ownb ho (by decide)⟩, ⟨_, ownb (own_away x3 hg (fun g2 hv e => own_ty x2 x3 (by decide) g2 e hv)) (by decide)⟩, ⟨_, ownb (own_away x4 hg (fun g2 hv e => own_ty x2 x4 (by decide) g2 e hv)) (by decide)⟩, fun g hv2 hv => by
    rcases hnew g hv with e | e
    · exact h.ap g hv2 e.symm
    · have := (x1.lt g hv2).2; omega, fun g hh => ?_⟩
  · rw [heap_setCell_same _ _ _ _ _ _ a3]; rfl
  · rw [Below.heap_setCell _ _ _ _ (by show w3.heap.size ≠ b4; omega)]; exact a4
  · rw [Below.heap_setCell _ _ _ _ (by show k ≠ b4; omega)]; exact a5 k p q
  · rcases hh with hv | hv | hv | hv
    · exact h.up g (Or.inl hv)
    · rcases hnew g hv with e | e
      · exact h.up g (Or.inr (Or.inl e.symm))
      · have := h.h3; omega
    · exact h.up g (Or.inr (Or.inr (Or.inl hv)))
    · exact h.up g (Or.inr (Or.inr (Or.inr hv)))
theorem Zw.apI (h : Zw w1 w3 b4 C s4 ds W) {s : Sl} {xs : List Value} (ho : V.ownsRow w1.heap.size 38 4 (slV s) s.n xs) (hg : W.grownBy V (slV s4.i).ownBlock) (hnew : ∀ g, (slV s).ownBlock = some g → some g = (slV s4.i).ownBlock ∨ W.heap.size ≤ g) :
    V.cell? ⟨b4, 8, none⟩ = some (slV s4.i) ∧ V.frozen? ⟨b4, 8, none⟩ = false ∧ Zw w1 w3 b4 C { s4 with i := s } ds (V.setCell ⟨b4, 8, none⟩ (slV s)) := by
  obtain ⟨_, x1⟩ := h.t
  obtain ⟨_, x2⟩ := h.k
  obtain ⟨_, x3⟩ := h.i
  obtain ⟨_, x4⟩ := h.r
  obtain ⟨a1, a2, a3, a4, a5⟩ := h.keep hg (fun g e => ⟨(x3.lt g e).1, h.up g (Or.inr (Or.inr (Or.inl e)))⟩)
  have ownb : ∀ {e : TypeId} {size n : Nat} {v : Value} {xs : List Value}, V.ownsRow w1.heap.size e size v n xs → e ≠ 26 → (V.setCell ⟨b4, 8, none⟩ (slV s)).ownsRow w1.heap.size e size v n xs := fun hh hne => owned_setOther hh a3 hne _
  have h1 := h.h1
  have h2 := h.h2
  refine ⟨cell_block a3 8 _ rfl, frozen_of_row V b4 8 _ _ a3, a1.setCell (p := ⟨b4, 8, none⟩) h1 _, h1, h2, by simpa using a2, ?_, ?_, fun k p q => ?_, ⟨_, ownb (own_away x1 hg (fun g2 hv e => own_ty x3 x1 (by decide) g2 e hv)) (by decide)⟩, ⟨_, ownb (own_away x2 hg (fun g2 hv e => own_ty x3 x2 (by decide) g2 e hv)) (by decide)⟩, ⟨_, ownb ho (by decide)⟩, ⟨_, ownb (own_away x4 hg (fun g2 hv e => own_ty x3 x4 (by decide) g2 e hv)) (by decide)⟩, h.ap, fun g hh => ?_⟩
  · rw [heap_setCell_same _ _ _ _ _ _ a3]; rfl
  · rw [Below.heap_setCell _ _ _ _ (by show w3.heap.size ≠ b4; omega)]; exact a4
  · rw [Below.heap_setCell _ _ _ _ (by show k ≠ b4; omega)]; exact a5 k p q
  · rcases hh with hv | hv | hv | hv
    · exact h.up g (Or.inl hv)
    · exact h.up g (Or.inr (Or.inl hv))
    · rcases hnew g hv with e | e
      · exact h.up g (Or.inr (Or.inr (Or.inl e.symm)))
      · have := h.h3; omega
    · exact h.up g (Or.inr (Or.inr (Or.inr hv)))
theorem Zw.apR (h : Zw w1 w3 b4 C s4 ds W) {s : Sl} {xs : List Value} (ho : V.ownsRow w1.heap.size 40 4 (slV s) s.n xs) (hg : W.grownBy V (slV s4.r).ownBlock) (hnew : ∀ g, (slV s).ownBlock = some g → some g = (slV s4.r).ownBlock ∨ W.heap.size ≤ g) :
    V.cell? ⟨b4, 9, none⟩ = some (slV s4.r) ∧ V.frozen? ⟨b4, 9, none⟩ = false ∧ Zw w1 w3 b4 C { s4 with r := s } ds (V.setCell ⟨b4, 9, none⟩ (slV s)) := by
  obtain ⟨_, x1⟩ := h.t
  obtain ⟨_, x2⟩ := h.k
  obtain ⟨_, x3⟩ := h.i
  obtain ⟨_, x4⟩ := h.r
  obtain ⟨a1, a2, a3, a4, a5⟩ := h.keep hg (fun g e => ⟨(x4.lt g e).1, h.up g (Or.inr (Or.inr (Or.inr e)))⟩)
  have ownb : ∀ {e : TypeId} {size n : Nat} {v : Value} {xs : List Value}, V.ownsRow w1.heap.size e size v n xs → e ≠ 26 → (V.setCell ⟨b4, 9, none⟩ (slV s)).ownsRow w1.heap.size e size v n xs := fun hh hne => owned_setOther hh a3 hne _
  have h1 := h.h1
  have h2 := h.h2
  refine ⟨cell_block a3 9 _ rfl, frozen_of_row V b4 9 _ _ a3, a1.setCell (p := ⟨b4, 9, none⟩) h1 _, h1, h2, by simpa using a2, ?_, ?_, fun k p q => ?_, ⟨_, ownb (own_away x1 hg (fun g2 hv e => own_ty x4 x1 (by decide) g2 e hv)) (by decide)⟩, ⟨_, ownb (own_away x2 hg (fun g2 hv e => own_ty x4 x2 (by decide) g2 e hv)) (by decide)⟩, ⟨_, ownb (own_away x3 hg (fun g2 hv e => own_ty x4 x3 (by decide) g2 e hv)) (by decide)⟩, ⟨_, ownb ho (by decide)⟩, h.ap, fun g hh => ?_⟩
  · rw [heap_setCell_same _ _ _ _ _ _ a3]; rfl
  · rw [Below.heap_setCell _ _ _ _ (by show w3.heap.size ≠ b4; omega)]; exact a4
  · rw [Below.heap_setCell _ _ _ _ (by show k ≠ b4; omega)]; exact a5 k p q
  · rcases hh with hv | hv | hv | hv
    · exact h.up g (Or.inl hv)
    · exact h.up g (Or.inr (Or.inl hv))
    · exact h.up g (Or.inr (Or.inr (Or.inl hv)))
    · rcases hnew g hv with e | e
      · exact h.up g (Or.inr (Or.inr (Or.inr e.symm)))
      · have := h.h3; omega
end
end Go.Proofs.YtignpgoicoojiaaDoor

