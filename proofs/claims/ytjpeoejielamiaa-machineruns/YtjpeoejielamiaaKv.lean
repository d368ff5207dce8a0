/-
  The law's own copy of a code: both boxes, and the rows that were laid for it. What the law writes over when both tables are there: rows below them.
-/
import Derived.Test.YtjpeoejielamiaaKu
namespace Go.Proofs.Ytjpeoejielamiaa
open Go.RowKit

structure Cm (w : World) (cs ds : Array Value) (bd : Nat) (L : List (Nat × Array Value × TypeId)) (W : World) : Prop where
  low : Below w.heap.size w W
  box : W.heap[w.heap.size]? = some (.cells cs 26 (0, 0))
  dbx : W.heap[bd]? = some (.cells ds 26 (0, 0))
  lt : w.heap.size < bd
  rows : ∀ r ∈ L, W.heap[r.1]? = some (.cells r.2.1 r.2.2 (0, 0)) ∧ w.heap.size < r.1 ∧ r.2.2 ≠ 26
section
variable {w W W2 : World} {cs ds es : Array Value} {bd : Nat} {L : List (Nat × Array Value × TypeId)}
theorem Cm.next (h : Cm w cs ds bd L W) (hb : Below W.heap.size W W2) : Cm w cs ds bd L W2 :=
  ⟨h.low.trans (hb.mono h.low.size), by rw [hb.block _ (lt_block h.box)]; exact h.box, by rw [hb.block _ (lt_block h.dbx)]; exact h.dbx, h.lt, fun r hr => ⟨by rw [hb.block _ (lt_block (h.rows r hr).1)]; exact (h.rows r hr).1, (h.rows r hr).2⟩⟩
theorem Cm.c (h : Cm w cs ds bd L W) (i : Nat) (v : Value) (hv : cs[i]? = some v) : W.cell? ⟨w.heap.size, i, none⟩ = some v := cell_block h.box i v hv
theorem Cm.d (h : Cm w cs ds bd L W) (i : Nat) (v : Value) (hv : ds[i]? = some v) : W.cell? ⟨bd, i, none⟩ = some v := cell_block h.dbx i v hv
theorem Cm.fz (h : Cm w cs ds bd L W) (i : Nat) : W.frozen? ⟨bd, i, none⟩ = false := frozen_of_row W _ i _ _ h.dbx
theorem Cm.put (h : Cm w cs ds bd L W) (i : Nat) (v : Value) (he : ds.setIfInBounds i v = es) : Cm w cs es bd L (W.setCell ⟨bd, i, none⟩ v) := by
  have hlt := h.lt
  refine ⟨h.low.setCell (p := ⟨bd, i, none⟩) (Nat.le_of_lt hlt) v, ?_, by rw [heap_setCell_same _ _ _ _ _ _ h.dbx, he], h.lt, fun r hr => ⟨?_, (h.rows r hr).2⟩⟩
  · rw [Below.heap_setCell _ _ _ _ (by show w.heap.size ≠ bd; omega)]; exact h.box
  · rw [Below.heap_setCell _ _ _ _ (ty_ne (h.rows r hr).1 h.dbx (h.rows r hr).2.2)]; exact (h.rows r hr).1
theorem Cm.add (h : Cm w cs ds bd L W) {g : Nat} {A : Array Value} {t : TypeId} (hr : W.heap[g]? = some (.cells A t (0, 0))) (hg : w.heap.size < g) (ht : t ≠ 26) : Cm w cs ds bd ((g, A, t) :: L) W :=
  ⟨h.low, h.box, h.dbx, h.lt, fun r hm => by
    rcases List.mem_cons.1 hm with rfl | hm
    · exact ⟨hr, hg, ht⟩
    · exact h.rows r hm⟩
/-- A row is made, laid into the copy's box, and filled. -/
theorem Cm.copied (h : Cm w cs ds bd L W) {t : TypeId} {xs : List Value} {wa wB : World} (hm : Laid W t xs wa) {i : Nat} {v : Value} (he : ds.setIfInBounds i v = es) {A : Array Value} (hl : Below W.heap.size (wa.setCell ⟨bd, i, none⟩ v) wB) (hr : wB.heap[W.heap.size]? = some (.cells A t (0, 0))) (ht : t ≠ 26) :
    Cm w cs es bd ((W.heap.size, A, t) :: L) wB := by
  have h2 := (h.next hm.low).put i v he
  have hk : ∀ {k : Nat}, k < W.heap.size → wB.heap[k]? = (wa.setCell ⟨bd, i, none⟩ v).heap[k]? := fun hk => hl.block _ hk
  have hlt := h.low.size
  refine Cm.add ⟨?_, ?_, ?_, h.lt, fun r hr => ⟨?_, (h.rows r hr).2⟩⟩ hr (by have := lt_block h.box; omega) ht
  · exact h2.low.trans (hl.mono hlt)
  · rw [hk (lt_block h.box)]; exact h2.box
  · rw [hk (lt_block h.dbx)]; exact h2.dbx
  · rw [hk (lt_block (h.rows r hr).1)]; exact (h2.rows r hr).1
/-- A row is written over. -/
theorem Cm.over (h : Cm w cs ds bd L W) {g : Nat} {A A2 : Array Value} {t : TypeId} (hg : (g, A, t) ∈ L) (k : Nat) (v : Value) (hA : A.setIfInBounds k v = A2) :
    Cm w cs ds bd ((g, A2, t) :: L.filter fun r => r.1 != g) (W.setCell ⟨g, k, none⟩ v) := by
  obtain ⟨h1, h2, h3⟩ := h.rows _ hg
  simp only at h1 h2 h3
  refine ⟨h.low.setCell (p := ⟨g, k, none⟩) (Nat.le_of_lt h2) v, ?_, ?_, h.lt, fun r hr => ?_⟩
  · rw [Below.heap_setCell _ _ _ _ (by show w.heap.size ≠ g; omega)]; exact h.box
  · rw [Below.heap_setCell _ _ _ _ (ty_ne h.dbx h1 (fun e => h3 e.symm))]; exact h.dbx
  · rcases List.mem_cons.1 hr with rfl | hr
    · exact ⟨by rw [heap_setCell_same _ _ _ _ _ _ h1, hA], h2, h3⟩
    · obtain ⟨hm, hne⟩ := List.mem_filter.1 hr
      have hne : r.1 ≠ g := by simpa using hne
      exact ⟨by rw [Below.heap_setCell _ _ _ _ hne]; exact (h.rows r hm).1, (h.rows r hm).2⟩
end

end Go.Proofs.Ytjpeoejielamiaa
namespace Go.Proofs.Ytjpeoejielamiaa
open Go.RowKit

structure Jw (w wE w8 : World) (cs ds : Array Value) (bd : Nat) (L : List (Nat × TypeId × Nat)) (W : World) : Prop where
  low : Below w.heap.size w W
  box : W.heap[w.heap.size]? = some (.cells cs 26 (0, 0))
  dbx : W.heap[bd]? = some (.cells ds 26 (0, 0))
  top : ∀ k, wE.heap.size ≤ k → k < w8.heap.size → W.heap[k]? = w8.heap[k]?
  sz : w8.heap.size ≤ W.heap.size
  rows : ∀ r ∈ L, (∃ A, W.heap[r.1]? = some (.cells A r.2.1 (0, 0)) ∧ A.size = r.2.2) ∧ w.heap.size < r.1 ∧ r.1 < wE.heap.size ∧ r.2.1 ≠ 26
section
variable {w wE w8 W W2 : World} {cs ds : Array Value} {bd : Nat} {L : List (Nat × TypeId × Nat)}
theorem Jw.next (h : Jw w wE w8 cs ds bd L W) (hb : Below W.heap.size W W2) : Jw w wE w8 cs ds bd L W2 :=
  ⟨h.low.trans (hb.mono h.low.size), by rw [hb.block _ (lt_block h.box)]; exact h.box, by rw [hb.block _ (lt_block h.dbx)]; exact h.dbx,
   fun k h1 h2 => by rw [hb.block _ (Nat.lt_of_lt_of_le h2 h.sz)]; exact h.top k h1 h2, Nat.le_trans h.sz hb.size,
   fun r hr => by
    obtain ⟨⟨A, h1, h2⟩, h3⟩ := h.rows r hr
    exact ⟨⟨A, by rw [hb.block _ (lt_block h1)]; exact h1, h2⟩, h3⟩⟩
theorem Jw.c (h : Jw w wE w8 cs ds bd L W) (i : Nat) (v : Value) (hv : cs[i]? = some v) : W.cell? ⟨w.heap.size, i, none⟩ = some v := cell_block h.box i v hv
theorem Jw.d (h : Jw w wE w8 cs ds bd L W) (i : Nat) (v : Value) (hv : ds[i]? = some v) : W.cell? ⟨bd, i, none⟩ = some v := cell_block h.dbx i v hv
theorem Jw.at (h : Jw w wE w8 cs ds bd L W) {g n : Nat} {t : TypeId} (hm : (g, t, n) ∈ L) {k : Nat} (hk : k < n) : ∃ v, W.cell? ⟨g, k, none⟩ = some v ∧ W.frozen? ⟨g, k, none⟩ = false := by
  obtain ⟨⟨A, h1, h2⟩, _⟩ := h.rows _ hm
  simp only at h1 h2
  exact ⟨A[k]'(by omega), cell_block h1 k _ (Array.getElem?_eq_getElem _), frozen_of_row _ _ _ _ _ h1⟩
theorem Jw.store (h : Jw w wE w8 cs ds bd L W) {g n : Nat} {t : TypeId} (hm : (g, t, n) ∈ L) (k : Nat) (v : Value) : Jw w wE w8 cs ds bd L (W.setCell ⟨g, k, none⟩ v) := by
  obtain ⟨⟨A, h1, h2⟩, h3, h4, h5⟩ := h.rows _ hm
  simp only at h1 h2 h3 h4 h5
  refine ⟨h.low.setCell (p := ⟨g, k, none⟩) (Nat.le_of_lt h3) v, ?_, ?_, fun q h6 h7 => ?_, by rw [show (W.setCell ⟨g, k, none⟩ v).heap.size = W.heap.size from by simp]; exact h.sz, fun r hr => ?_⟩
  · rw [Below.heap_setCell _ _ _ _ (by show w.heap.size ≠ g; omega)]; exact h.box
  · rw [Below.heap_setCell _ _ _ _ (ty_ne h.dbx h1 (fun e => h5 e.symm))]; exact h.dbx
  · rw [Below.heap_setCell _ _ _ _ (by show q ≠ g; omega)]; exact h.top q h6 h7
  · obtain ⟨⟨B, b1, b2⟩, b3⟩ := h.rows r hr
    by_cases e : r.1 = g
    · refine ⟨⟨B.setIfInBounds k v, ?_, by simp [b2]⟩, b3⟩
      rw [e] at b1 ⊢
      exact heap_setCell_same _ _ _ _ _ _ b1
    · exact ⟨⟨B, by rw [Below.heap_setCell _ _ _ _ e]; exact b1, b2⟩, b3⟩
theorem below_cut {B : Nat} (h : Below w.heap.size w W) (hB : w.heap.size ≤ B) (hB2 : B ≤ W.heap.size) : Below w.heap.size w (cutW B W) := by
  have hc := cut_below hB2
  have hz := cut_size hB2
  refine ⟨h.os, h.tape, h.output, by rw [hz]; exact hB, fun k hk => ?_⟩
  rw [← hc.block k (by rw [hz]; omega)]
  exact h.block k hk
/-- The program's table, when the law has written over what it had lent. -/
theorem Jw.tb (h : Jw w wE w8 cs ds bd L W) {g gs P X Y : Nat} {sa : Sl} {f : Nat → Ct} {e : En} {st : Int} (hT : Tb w8 g gs P X Y sa f e st) (hg : wE.heap.size ≤ g ∧ wE.heap.size ≤ gs) : Tb W g gs P X Y sa f e st :=
  ⟨by rw [h.top _ hg.1 (lt_block hT.box)]; exact hT.box, by rw [h.top _ hg.2 (lt_block hT.row)]; exact hT.row, hT.few⟩
theorem Jw.own (h : Jw w wE w8 cs ds bd L W) {E : TypeId} {z n : Nat} {v : Value} {xs : List Value} (ho : w8.ownsRow wE.heap.size E z v n xs) : W.ownsRow wE.heap.size E z v n xs := by
  refine ⟨ho.1, ?_⟩
  rcases ho.2 with h0 | ⟨g, cap, cur, hv, hb, hg, r⟩
  · exact Or.inl h0
  · exact Or.inr ⟨g, cap, cur, hv, hb, by rw [h.top _ hb (lt_block hg)]; exact hg, r⟩
/-- The document's. -/
theorem Jw.dt (h : Jw w wE w8 cs ds bd L W) {w1 : World} {p : Dp} {c : Cd} {s : Ls} {sx sy se : Sl} {x y : List Int} {M : Ms} {st : Int} (hD : Dt w1 w8 p c s sx sy x y se M st) (ho : w1.heap.size ≤ p.ob) (h1 : wE.heap.size ≤ w1.heap.size) (h0 : w.heap.size ≤ wE.heap.size) (hc : CdAt w c s) (hx : IntsAt w sx.a sx.n x) (hy : IntsAt w sy.a sy.n y) :
    Dt (cutW w1.heap.size W) W p c s sx sy x y se M st := by
  have hb := below_cut h.low (Nat.le_trans h0 h1) (Nat.le_trans hD.low.size h.sz)
  exact hD.rebase h.sz (fun k h2 h3 => h.top k (Nat.le_trans h1 h2) h3) (hc.below hb) (hx.below hb) (hy.below hb) ho
end

end Go.Proofs.Ytjpeoejielamiaa
