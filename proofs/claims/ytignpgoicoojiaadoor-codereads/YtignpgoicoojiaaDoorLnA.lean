/-
  Lists with room behind them: copy of numbers, what lent lays.
-/
import Derived.Test.YtignpgoicoojiaaDoorExa
import Derived.Test.YtignpgoicoojiaaDoorSam
import Derived.Laws.CopyOwn
namespace Go.Proofs.YtignpgoicoojiaaDoor
open Go.RowKit

/-- copy of a row: all is read before anything is written. -/
theorem run_copyG {T E : TypeId} {z : Nat} (hu : Tryd.prog.underlying T = some (.slice E)) (hz : (Tryd.prog.info? E).map (·.size) = some z) (w : World) (ty : TypeId) (g dLen dCap : Nat) (a : Addr) (sLen sCap : Nat) (cur : Array Value) (cs : List Value) (hg : w.heap[g]? = some (.cells cur E (0, 0))) (hn : cs.length = Nat.min sLen dLen * z)
    (hsrc : ∀ j v, cs[j]? = some v → w.cell? (a.add j) = some v) (hfit : cs.length ≤ cur.size) (h1 : ∀ v ∈ cs, v.oneCell' = true) :
    (Builtin.copy_ #[T, T] ty #[.slice (some ⟨g, 0, none⟩) dLen dCap, .slice (some a) sLen sCap]).run Tryd.prog w = .ok (goInt (Nat.min sLen dLen)) (w.setRow g (cs ++ cur.toList.drop cs.length).toArray) := by
  have hl := run_loadCells_list (P := Tryd.prog) w a cs hsrc
  have hst := run_storeCells_at Tryd.prog g 0 E cs 0 cur w hg (by simpa using hfit) h1
  cases hq : Tryd.prog.info? E with
  | none => simp [hq] at hz
  | some i =>
    have hi : i.size = z := by simpa [hq] using hz
    simp [Builtin.copy_, run_underlying hu, Builtin.lenOf, Builtin.firstCells, sizeOf, typeInfo, hq, hi, ← hn, hl, hst]
theorem wpList_copyG {T E : TypeId} {z : Nat} (hu : Tryd.prog.underlying T = some (.slice E)) (hz : (Tryd.prog.info? E).map (·.size) = some z) {w : World} {ops : Array Oper} {rest : List Oper} {o : Oper} {a : Act} {Q : Exit → Act → World → Prop} (hgd : o.guard = none) (d s : Operand)
    (ho : o.op = .call { callee := .builtin .copy, args := #[d, s], argTypes := #[T, T] }) (g dLen dCap : Nat) (ao : Option Addr) (sLen sCap : Nat) (hd : a.eval d = .slice (some ⟨g, 0, none⟩) dLen dCap) (hs : a.eval s = .slice ao sLen sCap)
    (hao : ao = none → sLen = 0 ∧ sCap = 0) (cur : Array Value) (hg : w.heap[g]? = some (.cells cur E (0, 0))) (cs : List Value) (hn : cs.length = Nat.min sLen dLen * z) (hsrc : ∀ ad, ao = some ad → ∀ j v, cs[j]? = some v → w.cell? (ad.add j) = some v) (hfit : cs.length ≤ cur.size) (h1 : ∀ v ∈ cs, v.oneCell' = true)
    (B : Nat) (w0 : World) (hb : Below B w0 w) (hBg : B ≤ g)
    (h : ∀ w', w'.heap[g]? = some (.cells (cs ++ cur.toList.drop cs.length).toArray E (0, 0)) → Below B w0 w' → ∀ v, wpList Tryd.prog ops Q rest (a.put o.dst v) w') : wpList Tryd.prog ops Q (o :: rest) a w := by
  refine wpList_plain hgd fun K hK => ?_
  cases ao with
  | some ad =>
    have hrun := run_copyG hu hz w o.type g dLen dCap ad sLen sCap cur cs hg hn (hsrc ad rfl) hfit h1
    unfold Oper.wp
    simp [execOp, ho, resolve, invoke, builtin, hd, hs, hrun, Result.andThen]
    exact hK _ _ (h _ (setRow_heap w g cur _ E (0, 0) hg) (below_setRow hb hBg _) _)
  | none =>
    obtain ⟨rfl, rfl⟩ := hao rfl
    have hcs : cs = [] := List.eq_nil_of_length_eq_zero (by simpa using hn)
    subst hcs
    have hrun := run_copy_nil (P := Tryd.prog) w T T o.type E ⟨g, 0, none⟩ dLen dCap hu (by rw [hz]; rfl)
    unfold Oper.wp
    simp [execOp, ho, resolve, invoke, builtin, hd, hs, hrun, Result.andThen]
    exact hK _ _ (h _ (by simpa using hg) hb _)
theorem IntsAt.source {w : World} {ao : Option Addr} {len : Nat} {l : List Int} (h : IntsAt w ao len l) : ∀ ad, ao = some ad → ∀ j v, (intVals l)[j]? = some v → w.cell? (ad.add j) = some v := by
  intro ad e j v hj
  have hlt : j < (intVals l).length := (List.getElem?_eq_some_iff.1 hj).1
  rw [intVals_length, h.length] at hlt
  obtain ⟨b, off, e2, hc⟩ := h.cells (by omega)
  rw [e] at e2
  cases e2
  have hadd : (⟨b, off, none⟩ : Addr).add j = ⟨b, off + j, none⟩ := by unfold Addr.add; split <;> simp_all
  rw [hadd, hc j hlt]
  rw [intVals, List.getElem?_map, getD_get (by rw [h.length]; exact hlt)] at hj
  simpa using hj
theorem QdsAt.source {w : World} {ao : Option Addr} {len : Nat} {l : List Qd} (h : QdsAt w ao len l) : ∀ ad, ao = some ad → ∀ j v, (qdVals l)[j]? = some v → w.cell? (ad.add j) = some v := by
  intro ad e j v hj
  have hlt : j < (qdVals l).length := (List.getElem?_eq_some_iff.1 hj).1
  rw [qdVals_length, h.length] at hlt
  obtain ⟨b, off, e2, hc⟩ := h.cells (by omega)
  rw [e] at e2
  cases e2
  have hi : j / 4 < l.length := by rw [h.length]; omega
  have hq : l[j / 4]? = some l[j / 4] := List.getElem?_eq_getElem hi
  obtain ⟨h1, h2, h3, h4⟩ := hc _ _ hq
  have hadd : (⟨b, off, none⟩ : Addr).add j = ⟨b, off + j, none⟩ := by unfold Addr.add; split <;> simp_all
  rw [hadd]
  have hm : j % 4 = 0 ∨ j % 4 = 1 ∨ j % 4 = 2 ∨ j % 4 = 3 := by omega
  have key : ∀ k u, (qdCells l[j / 4])[k]? = some u → j / 4 * 4 + k = j → v = u := fun k u hu hk => by
    have := flat_get qd_len l _ _ k u hq hu
    rw [hk] at this
    exact Option.some.inj (hj.symm.trans this)
  rcases hm with hm | hm | hm | hm
  · rw [key 0 _ rfl (by omega), ← h1, show off + j = off + j / 4 * 4 by omega]
  · rw [key 1 _ rfl (by omega), ← h2, show off + j = off + j / 4 * 4 + 1 by omega]
  · rw [key 2 _ rfl (by omega), ← h3, show off + j = off + j / 4 * 4 + 2 by omega]
  · rw [key 3 _ rfl (by omega), ← h4, show off + j = off + j / 4 * 4 + 3 by omega]
theorem ints_oneC (l : List Int) : ∀ v ∈ intVals l, v.oneCell' = true := by
  intro v hv; simp [intVals] at hv; obtain ⟨a, _, rfl⟩ := hv; rfl
theorem qds_oneC (l : List Qd) : ∀ v ∈ qdVals l, v.oneCell' = true := by
  intro v hv
  simp only [qdVals, List.mem_flatMap] at hv
  obtain ⟨q, _, h⟩ := hv
  simp [qdCells] at h
  rcases h with rfl | rfl | rfl | rfl <;> rfl
theorem made_one (n : Nat) : (madeCells #[.int .i64 0] n).toList = List.replicate n (.int .i64 0) := by
  apply List.ext_getElem
  · simp [madeCells]
  · intro i h1 h2
    simp [madeCells, Nat.mod_one]
theorem made_four (n : Nat) : (madeCells #[.int .i64 0, .int .i64 0, .int .i64 0, .int .i64 0] n).toList = List.replicate n (.int .i64 0) := by
  apply List.ext_getElem
  · simp [madeCells]
  · intro i h1 h2
    have : i % 4 = 0 ∨ i % 4 = 1 ∨ i % 4 = 2 ∨ i % 4 = 3 := by omega
    rcases this with h | h | h | h <;> simp [madeCells, h]
theorem made_block {w w3 : World} {E : TypeId} {z n : Nat} {xs : List Value} (ho : w3.ownsRow w.heap.size E z (.slice (some ⟨w.heap.size, 0, none⟩) n n) n xs) (hg : w.grownBy w3 none) : w3.heap[w.heap.size]? = some (.cells xs.toArray E (0, 0)) ∧ Below w.heap.size w w3 := by
  refine ⟨?_, (Below.refl w.heap.size w).grown hg (Nat.le_refl _) (by intro k hk; cases hk)⟩
  rcases ho.2 with ⟨hv, _⟩ | ⟨g', cap', cur, hv, hb, hgg, hnc, hcm, hcs, ht⟩
  · cases hv
  · cases hv
    rw [hgg]
    have : cur.toList = xs := by rw [← ht, List.take_of_length_le (by simp [hcs])]
    rw [← this]
theorem drop_rep {α : Type} (a b : Nat) (x : α) : (List.replicate (a + b) x).drop a = List.replicate b x := by
  rw [List.drop_replicate, Nat.add_sub_cancel_left]
theorem set_any {w : World} {b i : Nat} {cs : Array Value} {T : TypeId} {fr : Nat × Nat} (hb : w.heap[b]? = some (.cells cs T fr)) (v : Value) : (w.setCell ⟨b, i, none⟩ v).heap[b]? = some (.cells (cs.setIfInBounds i v) T fr) := by
  simp [World.setCell, Array.getElem?_modify, hb]
theorem size3 : (Tryd.prog.info? 3).map (·.size) = some 1 := by kernel_rfl
theorem size38 : (Tryd.prog.info? 38).map (·.size) = some 4 := by kernel_rfl
theorem size40 : (Tryd.prog.info? 40).map (·.size) = some 4 := by kernel_rfl
/-- What lent lays: a list, and behind it a mark. -/
def rowT (l : List Int) : List Value := intVals l ++ [.int .i64 77, .int .i64 0]
def rowK (l : List Int) : List Value := intVals l ++ [.int .i64 78, .int .i64 0]
def rowI (l : List Qd) : List Value := qdVals l ++ [.int .i64 79, .int .i64 0, .int .i64 0, .int .i64 0, .int .i64 0, .int .i64 0, .int .i64 0, .int .i64 0]
def rowR (l : List Qd) : List Value := qdVals l ++ [.int .i64 0, .int .i64 80, .int .i64 0, .int .i64 0, .int .i64 0, .int .i64 0, .int .i64 0, .int .i64 0]
/-- A row laid, and all below it as it was. -/
structure Laid (w : World) (E : TypeId) (xs : List Value) (W : World) : Prop where
  row : W.heap[w.heap.size]? = some (.cells xs.toArray E (0, 0))
  low : Below w.heap.size w W
theorem Laid.set {w : World} {E : TypeId} {xs ys : List Value} {W : World} (h : Laid w E xs W) (i : Nat) (v : Value) (hy : xs.set i v = ys) : Laid w E ys (W.setCell ⟨w.heap.size, i, none⟩ v) := by
  refine ⟨?_, h.low.setCell (p := ⟨w.heap.size, i, none⟩) (Nat.le_refl _) v⟩
  rw [set_any h.row, ← hy]
  simp
theorem Laid.cell {w : World} {E : TypeId} {xs : List Value} {W : World} (h : Laid w E xs W) (i : Nat) (v : Value) (hv : xs[i]? = some v) : W.cell? ⟨w.heap.size, i, none⟩ = some v ∧ W.frozen? ⟨w.heap.size, i, none⟩ = false :=
  ⟨cell_block h.row i v (by simpa using hv), frozen_of_row W _ i _ _ h.row⟩
theorem set_end {α : Type} {l : List α} {n : Nat} (hl : l.length = n) (m : Nat) (t t2 : List α) (v : α) (h : t.set m v = t2) : (l ++ t).set (n + m) v = l ++ t2 := by
  rw [List.set_append_right _ _ (by omega), hl, Nat.add_sub_cancel_left, h]
theorem get_end {α : Type} {l : List α} {n : Nat} (hl : l.length = n) (m : Nat) (t : List α) (v : α) (h : t[m]? = some v) : (l ++ t)[n + m]? = some v := by
  rw [List.getElem?_append_right (by omega), hl, Nat.add_sub_cancel_left, h]
end Go.Proofs.YtignpgoicoojiaaDoor
