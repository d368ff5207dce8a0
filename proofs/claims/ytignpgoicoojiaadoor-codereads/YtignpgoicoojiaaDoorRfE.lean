/-
  What the document's Decode keeps to on its way: its reader, its code's box, its result's box.
-/
import Derived.Test.YtignpgoicoojiaaDoorRfD
namespace Go.Proofs.YtignpgoicoojiaaDoor
open Go.RowKit
def z10 : Array Value := #[.int .i64 0, .int .i64 0, .int .i64 0, .int .i64 0, .int .i64 0, .int .i64 0, .slice none 0 0, .slice none 0 0, .slice none 0 0, .slice none 0 0]
structure Dg (w : World) (b gc : Nat) (s : ByteArray) (i : Nat) (cs : Array Value) (W : World) : Prop where
  low : Below w.heap.size w W
  rd : Rf W b s i
  bx : W.heap[gc]? = some (.cells cs 26 (0, 0))
  rx : W.heap[w.heap.size]? = some (.cells z10 26 (0, 0))
  hb : w.heap.size < b
  hg : w.heap.size < gc
theorem Dg.step {w : World} {b gc : Nat} {s : ByteArray} {i i2 : Nat} {cs : Array Value} {W W1 : World} {r : Nat} (h : Dg w b gc s i cs W) (hr : Rf W1 b s i2) (hg : W.grownBy W1 (some r)) (h1 : w.heap.size < r) (h2 : r ≠ gc) : Dg w b gc s i2 cs W1 where
  low := ⟨hg.os.trans h.low.os, hg.tape.trans h.low.tape, hg.output.trans h.low.output, Nat.le_trans h.low.size hg.size, fun k hk => (hg.block k (Nat.lt_of_lt_of_le hk h.low.size) (by intro e; cases e; omega)).trans (h.low.block k hk)⟩
  rd := hr
  bx := by rw [hg.block gc (lt_block h.bx) (by intro e; cases e; exact h2 rfl)]; exact h.bx
  rx := by rw [hg.block _ (lt_block h.rx) (by intro e; cases e; omega)]; exact h.rx
  hb := h.hb
  hg := h.hg
theorem Dg.ne {w : World} {b gc : Nat} {s : ByteArray} {i : Nat} {cs : Array Value} {W : World} (h : Dg w b gc s i cs W) : b ≠ gc := by
  intro e
  have h1 := h.bx
  rw [← e, h.rd.box] at h1
  cases h1
/-- The reader went on. -/
theorem Dg.call {w : World} {b gc : Nat} {s : ByteArray} {i i2 : Nat} {cs : Array Value} {W W1 : World} (h : Dg w b gc s i cs W) (hr : Rf W1 b s i2) (hg : W.grownBy W1 (some b)) : Dg w b gc s i2 cs W1 := h.step hr hg h.hb h.ne
/-- Only new blocks came. -/
theorem Dg.new {w : World} {b gc : Nat} {s : ByteArray} {i : Nat} {cs : Array Value} {W W1 : World} (h : Dg w b gc s i cs W) (hg : W.grownBy W1 none) : Dg w b gc s i cs W1 where
  low := ⟨hg.os.trans h.low.os, hg.tape.trans h.low.tape, hg.output.trans h.low.output, Nat.le_trans h.low.size hg.size, fun k hk => (hg.block k (Nat.lt_of_lt_of_le hk h.low.size) (by simp)).trans (h.low.block k hk)⟩
  rd := h.rd.other hg (by simp)
  bx := by rw [hg.block gc (lt_block h.bx) (by simp)]; exact h.bx
  rx := by rw [hg.block _ (lt_block h.rx) (by simp)]; exact h.rx
  hb := h.hb
  hg := h.hg
theorem Dg.alloc {w : World} {b gc : Nat} {s : ByteArray} {i : Nat} {cs : Array Value} {W : World} (h : Dg w b gc s i cs W) (o : Obj) : Dg w b gc s i cs (W.alloc o) := h.new (grown_alloc' (grown_refl W none) o)
theorem Dg.drewN {w : World} {b gc : Nat} {s : ByteArray} {i : Nat} {cs : Array Value} {W : World} (h : Dg w b gc s i cs W) (n : Nat) : Dg w b gc s i cs (W.drewN n) := h.new (grown_drewN n)
/-- A row of one's own grew. -/
theorem Dg.grow {w : World} {b gc : Nat} {s : ByteArray} {i : Nat} {cs : Array Value} {W W1 : World} {B size n : Nat} {e : TypeId} {v : Value} {xs : List Value} (h : Dg w b gc s i cs W) (ho : W.ownsRow B e size v n xs) (he : e ≠ 59) (he2 : e ≠ 26) (hB : w.heap.size ≤ B) (hg : W.grownBy W1 v.ownBlock) : Dg w b gc s i cs W1 := by
  have hrf := rf_own h.rd ho he hg
  rcases ho.2 with ⟨hv, _⟩ | ⟨g', cap', cur, hv, hb, hc, _⟩
  · subst hv; exact h.new hg
  · subst hv
    have hne : g' ≠ gc := fun e' => by rw [e', h.bx] at hc; cases hc; exact he2 rfl
    have hne2 : g' ≠ w.heap.size := fun e' => by rw [e', h.rx] at hc; cases hc; exact he2 rfl
    exact h.step (r := g') hrf hg (by omega) hne
/-- A field of the code was set. -/
theorem Dg.put {w : World} {b gc : Nat} {s : ByteArray} {i : Nat} {cs : Array Value} {W : World} (h : Dg w b gc s i cs W) (k : Nat) (v : Value) : Dg w b gc s i (cs.setIfInBounds k v) (W.setCell ⟨gc, k, none⟩ v) where
  low := by
    have hg := grown_set W gc k v
    exact ⟨hg.os.trans h.low.os, hg.tape.trans h.low.tape, hg.output.trans h.low.output, Nat.le_trans h.low.size hg.size, fun j hj => (hg.block j (Nat.lt_of_lt_of_le hj h.low.size) (by have := h.hg; intro e; cases e; omega)).trans (h.low.block j hj)⟩
  rd := h.rd.other (grown_set W gc k v) (fun e => h.ne (by cases e; rfl))
  bx := heap_setCell_same W gc k _ _ _ h.bx
  rx := by rw [(grown_set W gc k v).block _ (lt_block h.rx) (by have := h.hg; intro e; cases e; omega)]; exact h.rx
  hb := h.hb
  hg := h.hg
theorem Dg.cell {w : World} {b gc : Nat} {s : ByteArray} {i : Nat} {cs : Array Value} {W : World} (h : Dg w b gc s i cs W) (k : Nat) {v : Value} (hv : cs[k]? = some v) : W.cell? ⟨gc, k, none⟩ = some v := cell_block h.bx k _ hv
theorem Dg.fz {w : World} {b gc : Nat} {s : ByteArray} {i : Nat} {cs : Array Value} {W : World} (h : Dg w b gc s i cs W) (k : Nat) : W.frozen? ⟨gc, k, none⟩ = false := frozen_of_row W gc k _ _ h.bx
/-- Rows of one's own, where a field of the code is set. -/
theorem Dg.own {w : World} {b gc : Nat} {s : ByteArray} {i : Nat} {cs : Array Value} {W : World} {B size n : Nat} {e : TypeId} {x : Value} {xs : List Value} (h : Dg w b gc s i cs W) (ho : W.ownsRow B e size x n xs) (he : e ≠ 26) (k : Nat) (v : Value) : (W.setCell ⟨gc, k, none⟩ v).ownsRow B e size x n xs :=
  own_kind ho h.bx he (grown_set W gc k v)
end Go.Proofs.YtignpgoicoojiaaDoor
