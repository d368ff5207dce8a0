/-
  The walk of the document's Used.
-/
import Derived.Test.YtnkfibahkmmnpaaVuA
import Derived.Test.YtnkfibahkmmnpaaRtC
namespace Go.Proofs.Ytnkfibahkmmnpaa
open Go.RowKit

def hitB (r : Int) (q : Qd) : Bool := q.2.1 == r && wrB q.1
theorem usR_hit (l : List Qd) (regs : Int) (r : Nat) (h : (r : Int) < regs) : usR l regs r = l.any (hitB r) := by
  unfold usR
  congr 1
  funext q
  unfold hitB
  rw [Bool.eq_iff_iff]
  simp only [Bool.and_eq_true, decide_eq_true_eq, beq_iff_eq]
  exact ⟨fun ⟨⟨a, _⟩, b⟩ => ⟨b, a⟩, fun ⟨b, a⟩ => ⟨⟨a, by omega⟩, b⟩⟩
theorem usR_big (l : List Qd) (regs : Int) (r : Nat) (h : regs ≤ (r : Int)) : usR l regs r = false := by
  unfold usR
  rw [List.any_eq_false]
  intro q _ hq
  simp only [Bool.and_eq_true, decide_eq_true_eq, beq_iff_eq] at hq
  omega
theorem usL_more (l : List Qd) (regs : Int) (n : Nat) (h : regs = n) : ∀ m, usL l regs (n + m) = usL l regs n
  | 0 => rfl
  | m + 1 => by rw [← Nat.add_assoc, usL_succ, usR_big l regs (n + m) (by omega), usL_more l regs n h m]; simp
theorem any_step {l : List Qd} {f : Qd → Bool} {k : Nat} {q : Qd} (h : l[k]? = some q) (h0 : (l.take k).any f = false) (h1 : f q = false) : (l.take (k + 1)).any f = false := by
  rw [take_snoc h, List.any_append, h0]; simp [h1]
theorem any_hit {l : List Qd} {f : Qd → Bool} {k m : Nat} {q : Qd} (h : l[k]? = some q) (hk : k < m) (h1 : f q = true) : (l.take m).any f = true := by
  rw [List.any_eq_true]
  refine ⟨q, ?_, h1⟩
  have : (l.take m)[k]? = some q := by rw [List.getElem?_take_of_lt hk]; exact h
  exact List.mem_of_getElem? this
structure Bo (w wr : World) (cs : Array Value) : Prop where
  low : Below w.heap.size w wr
  box : wr.heap[w.heap.size]? = some (.cells cs 32 (0, 0))
theorem Bo.next {w wr w2 : World} {cs : Array Value} (h : Bo w wr cs) (hb : Below wr.heap.size wr w2) : Bo w w2 cs :=
  ⟨h.low.trans (hb.mono h.low.size), by rw [hb.block _ (lt_block h.box)]; exact h.box⟩
theorem Bo.cell {w wr : World} {cs : Array Value} (h : Bo w wr cs) (i : Nat) {v : Value} (hv : cs[i]? = some v) : wr.cell? ⟨w.heap.size, i, none⟩ = some v := cell_block h.box i v hv
theorem Bo.own {w wr w2 : World} {cs : Array Value} (h : Bo w wr cs) {v : Value} {n : Nat} {xs : List Value} (ho : wr.ownsRow w.heap.size 3 1 v n xs) (hg : wr.grownBy w2 v.ownBlock) : Bo w w2 cs := by
  refine ⟨h.low.grown hg h.low.size (own_blk ho), ?_⟩
  rw [hg.block _ (lt_block h.box) (fun e => by
    rcases ho.2 with ⟨hv, _⟩ | ⟨g', cap', cur', hv, _, hg', _⟩
    · rw [hv] at e; cases e
    · rw [hv] at e; simp [Value.ownBlock] at e; subst e; have := h.box; rw [hg'] at this; cases this)]
  exact h.box
end Go.Proofs.Ytnkfibahkmmnpaa
