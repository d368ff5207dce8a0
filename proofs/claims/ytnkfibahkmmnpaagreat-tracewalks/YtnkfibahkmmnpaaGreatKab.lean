/-
  The walk of Used. The walk of the document's Used.
-/
import Derived.Deep.WholeRow
import Derived.Deep.Cut
import Derived.Test.YtnkfibahkmmnpaaGreatVrA
import Derived.Test.YtnkfibahkmmnpaaGreatWgh
import Derived.Test.YtnkfibahkmmnpaaGreatRtC
namespace Go.Proofs.YtnkfibahkmmnpaaGreat
open Go.RowKit

/-- Is a register written by these instructions? -/
def usR (l : List Qd) (regs : Int) (r : Nat) : Bool := l.any fun q => wrB q.1 && decide (q.2.1 < regs) && q.2.1 == (r : Int)
def usL (l : List Qd) (regs : Int) (n : Nat) : List Int := ((List.range n).filter (usR l regs)).map Int.ofNat
/-- What Used tells. -/
def usdB (c : Cd) (a : Int) : List Int × Int :=
  if rightB c = false then ([], 160) else if a < 0 ∨ (c.cell.length : Int) < a then ([], 1) else (usL (c.cell.take a.toNat) c.regs 16, 0)
theorem usL_succ (l : List Qd) (regs : Int) (n : Nat) : usL l regs (n + 1) = usL l regs n ++ (if usR l regs n then [(n : Int)] else []) := by
  simp only [usL, List.range_succ, List.filter_append, List.map_append]
  congr 1
  cases h : usR l regs n <;> simp [h]
theorem usL_len (l : List Qd) (regs : Int) (n : Nat) : (usL l regs n).length ≤ n := by
  simp only [usL, List.length_map]
  exact Nat.le_trans (List.length_filter_le _ _) (by simp)
def wtC (f : Nat → Bool) : Array Value := Array.ofFn (n := 16) fun i => .bool (f i.val)
theorem wt_size (f : Nat → Bool) : (wtC f).size = 16 := by simp [wtC]
theorem wt_get (f : Nat → Bool) {i : Nat} (h : i < 16) : (wtC f)[i]? = some (.bool (f i)) := by simp [wtC, h]
theorem wt_set (f : Nat → Bool) (k : Nat) : (wtC f).setIfInBounds k (.bool true) = wtC (fun i => f i || i == k) := by
  apply Array.ext_getElem?
  intro j
  rw [Array.getElem?_setIfInBounds]
  by_cases hj : j < 16
  · rw [wt_get _ hj, wt_get _ hj, wt_size]
    by_cases e : k = j
    · subst e; simp [hj]
    · have e' : ¬ j = k := fun h => e h.symm
      simp [e, e']
  · rw [Array.getElem?_eq_none (by rw [wt_size]; omega), Array.getElem?_eq_none (by rw [wt_size]; omega)]
    simp [wt_size]
    omega
theorem usR_nil (regs : Int) : usR [] regs = fun _ => false := rfl
theorem usR_snoc (l : List Qd) (q : Qd) (regs : Int) (k : Nat) (h : (wrB q.1 && decide (q.2.1 < regs)) = true) (hk : q.2.1 = (k : Int)) : usR (l ++ [q]) regs = fun i => usR l regs i || i == k := by
  funext i
  simp only [usR, List.any_append, List.any_cons, List.any_nil, Bool.or_false]
  rw [h, hk, Bool.true_and]
  have : (((k : Int) == (i : Int)) : Bool) = (i == k) := by rw [Bool.eq_iff_iff, beq_iff_eq, beq_iff_eq]; omega
  rw [this]
theorem usR_skip (l : List Qd) (q : Qd) (regs : Int) (h : (wrB q.1 && decide (q.2.1 < regs)) = false) : usR (l ++ [q]) regs = usR l regs := by
  funext i
  simp only [usR, List.any_append, List.any_cons, List.any_nil, Bool.or_false]
  rw [h, Bool.false_and, Bool.or_false]
theorem run_index62 (A : Array Value) (k : Nat) (b : Bool) (hk : k < 16) (hA : A[k]? = some (.bool b)) (W : World) : (Instr.index 148 (.agg A) (.int .i64 (k : Int))).run Tryz.prog W = .ok (.bool b) W := by
  have h4 : (Tryz.prog.info? 4).map (·.size) = some 1 := by kernel_rfl
  cases hq : Tryz.prog.info? 4 with
  | none => simp [hq] at h4
  | some i =>
    have hi : i.size = 1 := by simpa [hq] using h4
    have hlt : ¬ 16 ≤ k := by omega
    simp [Instr.index, run_underlying Tryz.underlying148, asIntOf, hlt, sizeOf, typeInfo, hq, hi, go_sem, part, hA]
theorem wpList_load_row {P : Program} {ops : Array Oper} {rest : List Oper} {op : Oper} {a : Act} {w : World} {Q : Exit → Act → World → Prop} (hgd : op.guard = none) (ty : TypeId) (x : Operand) (ho : op.op = .load ty x) (g n : Nat) (e : TypeId) (c : Array Value) (f : Nat × Nat)
    (hx : a.eval x = .pointer (some ⟨g, 0, none⟩)) (hg : w.heap[g]? = some (.cells c ty f)) (hu : P.underlying ty = some (.array n e)) (hi : (P.info? ty).map (·.size) = some c.size)
    (h : wpList P ops Q rest (a.put op.dst (.agg c)) w) : wpList P ops Q (op :: rest) a w :=
  wpList_plain hgd fun K hK => by
    unfold Oper.wp execOp
    simp only [ho, hx, Instr.loadAt, Instr.sureAddr, Sem.run_bind, Sem.run_pure, Result.andThen_ok, run_loadVar_row _ _ ty ty c f _ hg hu rfl hi]
    exact hK _ _ h
/-- The box, the table. -/
structure Us (w wr : World) (g : Nat) (cs : Array Value) (f : Nat → Bool) : Prop where
  low : Below w.heap.size w wr
  lt : w.heap.size < g
  box : wr.heap[w.heap.size]? = some (.cells cs 26 (0, 0))
  tab : wr.heap[g]? = some (.cells (wtC f) 148 (0, 0))
theorem Us.next {w wr w2 : World} {g : Nat} {cs : Array Value} {f : Nat → Bool} (h : Us w wr g cs f) (hb : Below wr.heap.size wr w2) : Us w w2 g cs f :=
  ⟨h.low.trans (hb.mono h.low.size), h.lt, by rw [hb.block _ (lt_block h.box)]; exact h.box, by rw [hb.block _ (lt_block h.tab)]; exact h.tab⟩
theorem Us.put {w wr : World} {g : Nat} {cs : Array Value} {f f' : Nat → Bool} (h : Us w wr g cs f) (k : Nat) (hf : f' = fun i => f i || i == k) : Us w (wr.setCell ⟨g, k, none⟩ (.bool true)) g cs f' := by
  have hl := h.lt
  exact ⟨h.low.setCell (p := ⟨g, k, none⟩) (by show w.heap.size ≤ g; omega) _, h.lt, by rw [Below.heap_setCell _ _ _ _ (by show w.heap.size ≠ g; omega)]; exact h.box, by rw [heap_setCell_same _ _ _ _ _ _ h.tab, wt_set, hf]⟩
theorem Us.cell {w wr : World} {g : Nat} {cs : Array Value} {f : Nat → Bool} (h : Us w wr g cs f) (i : Nat) {v : Value} (hv : cs[i]? = some v) : wr.cell? ⟨w.heap.size, i, none⟩ = some v := cell_block h.box i v hv
theorem run_cut23 (ia : Option Addr) (n c m : Nat) (hm : m ≤ c) (W : World) : (Instr.slice 23 (.slice ia n c) none (some (.int .i64 (m : Int))) none).run Tryz.prog W = .ok (.slice ia m c) W := by
  have h : (m : Int) ≤ (c : Int) := by omega
  rw [run_slice_h (w := W) (t := 23) (a := ia) (len := n) (cap := c) (ht := by kernel_rfl) .i64 (m : Int) (by omega) h]
  have hz : ((sizeOf (Tryz.prog.elem 23)).run Tryz.prog W) = .ok 4 W := by kernel_rfl
  rw [hz]
  cases ia with
  | none => simp [Result.andThen, sliced]
  | some ad => simp [Result.andThen, sliced, Addr.add]
theorem own_blk {w : World} {base : Nat} {e : TypeId} {size : Nat} {v : Value} {n : Nat} {xs : List Value} (h : w.ownsRow base e size v n xs) : ∀ k, v.ownBlock = some k → base ≤ k := by
  intro k hk
  rcases h.2 with ⟨hv, _⟩ | ⟨g, cap, cur, hv, hb, _⟩
  · rw [hv] at hk; cases hk
  · rw [hv] at hk; simp [Value.ownBlock] at hk; omega
theorem info3 : (Tryz.prog.info? 3).map (fun i => (i.zero, i.size, i.bytes)) = some (some (.int .i64 0), 1, 8) := by kernel_rfl
theorem take_snoc {l : List Qd} {k : Nat} {q : Qd} (h : l[k]? = some q) : l.take (k + 1) = l.take k ++ [q] := by
  have hk : k < l.length := (List.getElem?_eq_some_iff.1 h).1
  rw [List.take_succ_eq_append_getElem hk]
  rw [List.getElem?_eq_getElem hk] at h
  cases h; rfl
theorem usd0 {c : Cd} {a : Int} (h : rightB c = false) : usdB c a = ([], 160) := by unfold usdB; rw [if_pos h]
theorem usd1 {c : Cd} {a : Int} (h : rightB c = true) (h2 : a < 0 ∨ (c.cell.length : Int) < a) : usdB c a = ([], 1) := by unfold usdB; rw [if_neg (by rw [h]; decide), if_pos h2]
theorem usd2 {c : Cd} {a : Int} (h : rightB c = true) (h2 : ¬ (a < 0 ∨ (c.cell.length : Int) < a)) : usdB c a = (usL (c.cell.take a.toNat) c.regs 16, 0) := by unfold usdB; rw [if_neg (by rw [h]; decide), if_neg h2]
theorem own_nil1 (w : World) (b : Nat) : w.ownsRow b 3 1 (.slice none 0 0) 0 [] := ⟨rfl, .inl ⟨rfl, rfl⟩⟩
theorem usd_ret {c : Cd} {a : Int} {l : List Int} {e : Int} {w w' : World} {v : Value} (hU : usdB c a = (l, e)) (ho : w'.ownsRow w.heap.size 3 1 v l.length (intVals l)) (hb : Below w.heap.size w w') :
    ∃ u, Ending.returned (.tuple #[v, .int .i64 e]) = .returned (.tuple #[u, .int .i64 (usdB c a).2]) ∧ w'.ownsRow w.heap.size 3 1 u (usdB c a).1.length (intVals (usdB c a).1) ∧ Below w.heap.size w w' := by
  rw [hU]; exact ⟨v, rfl, ho, hb⟩
theorem one_int (y : Int) : ∀ v ∈ [Value.int .i64 y], v.oneCell' = true := by intro v hv; simp at hv; subst hv; rfl
end Go.Proofs.YtnkfibahkmmnpaaGreat
namespace Go.Proofs.YtnkfibahkmmnpaaGreat
open Go.RowKit

def hitB (r : Int) (q : Qd) : Bool := q.2.1 == r && wrB q.1
theorem usR_hit (l : List Qd) (regs : Int) (r : Nat) (h : (r : Int) < regs) : usR l regs r = l.any (hitB r) := by
  unfold usR
  congr 1
  funext q
  unfold hitB
  rw [Bool.eq_iff_iff]
  simp only [Bool.and_eq_true, decide_eq_true_eq, beq_iff_eq]
  exact ⟨fun ⟨⟨a, _⟩, b⟩ => ⟨b, a⟩, fun ⟨b, a⟩ => ⟨⟨a, by omega⟩, b⟩⟩
theorem usR_big (l : List Qd) (regs : Int) (r : Nat) (h : regs ≤ (r : Int)) : usR l regs r = false := by
  unfold usR
  rw [List.any_eq_false]
  intro q _ hq
  simp only [Bool.and_eq_true, decide_eq_true_eq, beq_iff_eq] at hq
  omega
theorem usL_more (l : List Qd) (regs : Int) (n : Nat) (h : regs = n) : ∀ m, usL l regs (n + m) = usL l regs n
  | 0 => rfl
  | m + 1 => by rw [← Nat.add_assoc, usL_succ, usR_big l regs (n + m) (by omega), usL_more l regs n h m]; simp
theorem any_step {l : List Qd} {f : Qd → Bool} {k : Nat} {q : Qd} (h : l[k]? = some q) (h0 : (l.take k).any f = false) (h1 : f q = false) : (l.take (k + 1)).any f = false := by
  rw [take_snoc h, List.any_append, h0]; simp [h1]
theorem any_hit {l : List Qd} {f : Qd → Bool} {k m : Nat} {q : Qd} (h : l[k]? = some q) (hk : k < m) (h1 : f q = true) : (l.take m).any f = true := by
  rw [List.any_eq_true]
  refine ⟨q, ?_, h1⟩
  have : (l.take m)[k]? = some q := by rw [List.getElem?_take_of_lt hk]; exact h
  exact List.mem_of_getElem? this
structure Bo (w wr : World) (cs : Array Value) : Prop where
  low : Below w.heap.size w wr
  box : wr.heap[w.heap.size]? = some (.cells cs 26 (0, 0))
theorem Bo.next {w wr w2 : World} {cs : Array Value} (h : Bo w wr cs) (hb : Below wr.heap.size wr w2) : Bo w w2 cs :=
  ⟨h.low.trans (hb.mono h.low.size), by rw [hb.block _ (lt_block h.box)]; exact h.box⟩
theorem Bo.cell {w wr : World} {cs : Array Value} (h : Bo w wr cs) (i : Nat) {v : Value} (hv : cs[i]? = some v) : wr.cell? ⟨w.heap.size, i, none⟩ = some v := cell_block h.box i v hv
theorem Bo.own {w wr w2 : World} {cs : Array Value} (h : Bo w wr cs) {v : Value} {n : Nat} {xs : List Value} (ho : wr.ownsRow w.heap.size 3 1 v n xs) (hg : wr.grownBy w2 v.ownBlock) : Bo w w2 cs := by
  refine ⟨h.low.grown hg h.low.size (own_blk ho), ?_⟩
  rw [hg.block _ (lt_block h.box) (fun e => by
    rcases ho.2 with ⟨hv, _⟩ | ⟨g', cap', cur', hv, _, hg', _⟩
    · rw [hv] at e; cases e
    · rw [hv] at e; simp [Value.ownBlock] at e; subst e; have := h.box; rw [hg'] at this; cases this)]
  exact h.box
end Go.Proofs.YtnkfibahkmmnpaaGreat
