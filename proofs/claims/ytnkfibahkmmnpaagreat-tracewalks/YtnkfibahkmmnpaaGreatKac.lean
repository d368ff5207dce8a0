/-
  Lists with room behind them: copy of numbers, what copied lays. The walk of the statements' own copied.
-/
import Derived.Laws.CopyOwn
import Derived.Test.YtnkfibahkmmnpaaGreatVuC
import Derived.Test.YtnkfibahkmmnpaaGreatOpn
namespace Go.Proofs.YtnkfibahkmmnpaaGreat
open Go.RowKit

/-- copy of a row: all is read before anything is written. -/
theorem run_copyG {T E : TypeId} {z : Nat} (hu : Tryz.prog.underlying T = some (.slice E)) (hz : (Tryz.prog.info? E).map (·.size) = some z) (w : World) (ty : TypeId) (g dLen dCap : Nat) (a : Addr) (sLen sCap : Nat) (cur : Array Value) (cs : List Value) (hg : w.heap[g]? = some (.cells cur E (0, 0))) (hn : cs.length = Nat.min sLen dLen * z)
    (hsrc : ∀ j v, cs[j]? = some v → w.cell? (a.add j) = some v) (hfit : cs.length ≤ cur.size) (h1 : ∀ v ∈ cs, v.oneCell' = true) :
    (Builtin.copy_ #[T, T] ty #[.slice (some ⟨g, 0, none⟩) dLen dCap, .slice (some a) sLen sCap]).run Tryz.prog w = .ok (goInt (Nat.min sLen dLen)) (w.setRow g (cs ++ cur.toList.drop cs.length).toArray) := by
  have hl := run_loadCells_list (P := Tryz.prog) w a cs hsrc
  have hst := run_storeCells_at Tryz.prog g 0 E cs 0 cur w hg (by simpa using hfit) h1
  cases hq : Tryz.prog.info? E with
  | none => simp [hq] at hz
  | some i =>
    have hi : i.size = z := by simpa [hq] using hz
    simp [Builtin.copy_, run_underlying hu, Builtin.lenOf, Builtin.firstCells, sizeOf, typeInfo, hq, hi, ← hn, hl, hst]
theorem wpList_copyG {T E : TypeId} {z : Nat} (hu : Tryz.prog.underlying T = some (.slice E)) (hz : (Tryz.prog.info? E).map (·.size) = some z) {w : World} {ops : Array Oper} {rest : List Oper} {o : Oper} {a : Act} {Q : Exit → Act → World → Prop} (hgd : o.guard = none) (d s : Operand)
    (ho : o.op = .call { callee := .builtin .copy, args := #[d, s], argTypes := #[T, T] }) (g dLen dCap : Nat) (ao : Option Addr) (sLen sCap : Nat) (hd : a.eval d = .slice (some ⟨g, 0, none⟩) dLen dCap) (hs : a.eval s = .slice ao sLen sCap)
    (hao : ao = none → sLen = 0 ∧ sCap = 0) (cur : Array Value) (hg : w.heap[g]? = some (.cells cur E (0, 0))) (cs : List Value) (hn : cs.length = Nat.min sLen dLen * z) (hsrc : ∀ ad, ao = some ad → ∀ j v, cs[j]? = some v → w.cell? (ad.add j) = some v) (hfit : cs.length ≤ cur.size) (h1 : ∀ v ∈ cs, v.oneCell' = true)
    (B : Nat) (w0 : World) (hb : Below B w0 w) (hBg : B ≤ g)
    (h : ∀ w', w'.heap[g]? = some (.cells (cs ++ cur.toList.drop cs.length).toArray E (0, 0)) → Below B w0 w' → ∀ v, wpList Tryz.prog ops Q rest (a.put o.dst v) w') : wpList Tryz.prog ops Q (o :: rest) a w := by
  refine wpList_plain hgd fun K hK => ?_
  cases ao with
  | some ad =>
    have hrun := run_copyG hu hz w o.type g dLen dCap ad sLen sCap cur cs hg hn (hsrc ad rfl) hfit h1
    unfold Oper.wp
    simp [execOp, ho, resolve, invoke, builtin, hd, hs, hrun, Result.andThen]
    exact hK _ _ (h _ (setRow_heap w g cur _ E (0, 0) hg) (below_setRow hb hBg _) _)
  | none =>
    obtain ⟨rfl, rfl⟩ := hao rfl
    have hcs : cs = [] := List.eq_nil_of_length_eq_zero (by simpa using hn)
    subst hcs
    have hrun := run_copy_nil (P := Tryz.prog) w T T o.type E ⟨g, 0, none⟩ dLen dCap hu (by rw [hz]; rfl)
    unfold Oper.wp
    simp [execOp, ho, resolve, invoke, builtin, hd, hs, hrun, Result.andThen]
    exact hK _ _ (h _ (by simpa using hg) hb _)
theorem getD_get {zs : List Int} {k : Nat} (h : k < zs.length) : zs[k]? = some (zs.getD k 0) := by
  rw [List.getElem?_eq_getElem h, List.getD, List.getElem?_eq_getElem h]; rfl
theorem IntsAt.source {w : World} {ao : Option Addr} {len : Nat} {l : List Int} (h : IntsAt w ao len l) : ∀ ad, ao = some ad → ∀ j v, (intVals l)[j]? = some v → w.cell? (ad.add j) = some v := by
  intro ad e j v hj
  have hlt : j < (intVals l).length := (List.getElem?_eq_some_iff.1 hj).1
  rw [intVals_length, h.length] at hlt
  obtain ⟨b, off, e2, hc⟩ := h.cells (by omega)
  rw [e] at e2
  cases e2
  have hadd : (⟨b, off, none⟩ : Addr).add j = ⟨b, off + j, none⟩ := by unfold Addr.add; split <;> simp_all
  rw [hadd, hc j hlt]
  rw [intVals, List.getElem?_map, getD_get (by rw [h.length]; exact hlt)] at hj
  simpa using hj
theorem QdsAt.source {w : World} {ao : Option Addr} {len : Nat} {l : List Qd} (h : QdsAt w ao len l) : ∀ ad, ao = some ad → ∀ j v, (qdVals l)[j]? = some v → w.cell? (ad.add j) = some v := by
  intro ad e j v hj
  have hlt : j < (qdVals l).length := (List.getElem?_eq_some_iff.1 hj).1
  rw [qdVals_length, h.length] at hlt
  obtain ⟨b, off, e2, hc⟩ := h.cells (by omega)
  rw [e] at e2
  cases e2
  have hi : j / 4 < l.length := by rw [h.length]; omega
  have hq : l[j / 4]? = some l[j / 4] := List.getElem?_eq_getElem hi
  obtain ⟨h1, h2, h3, h4⟩ := hc _ _ hq
  have hadd : (⟨b, off, none⟩ : Addr).add j = ⟨b, off + j, none⟩ := by unfold Addr.add; split <;> simp_all
  rw [hadd]
  have hm : j % 4 = 0 ∨ j % 4 = 1 ∨ j % 4 = 2 ∨ j % 4 = 3 := by omega
  have key : ∀ k u, (qdCells l[j / 4])[k]? = some u → j / 4 * 4 + k = j → v = u := fun k u hu hk => by
    have := flat_get qd_len l _ _ k u hq hu
    rw [hk] at this
    exact Option.some.inj (hj.symm.trans this)
  rcases hm with hm | hm | hm | hm
  · rw [key 0 _ rfl (by omega), ← h1, show off + j = off + j / 4 * 4 by omega]
  · rw [key 1 _ rfl (by omega), ← h2, show off + j = off + j / 4 * 4 + 1 by omega]
  · rw [key 2 _ rfl (by omega), ← h3, show off + j = off + j / 4 * 4 + 2 by omega]
  · rw [key 3 _ rfl (by omega), ← h4, show off + j = off + j / 4 * 4 + 3 by omega]
theorem ints_oneC (l : List Int) : ∀ v ∈ intVals l, v.oneCell' = true := by
  intro v hv; simp [intVals] at hv; obtain ⟨a, _, rfl⟩ := hv; rfl
theorem qds_oneC (l : List Qd) : ∀ v ∈ qdVals l, v.oneCell' = true := by
  intro v hv
  simp only [qdVals, List.mem_flatMap] at hv
  obtain ⟨q, _, h⟩ := hv
  simp [qdCells] at h
  rcases h with rfl | rfl | rfl | rfl <;> rfl
theorem made_one (n : Nat) : (madeCells #[.int .i64 0] n).toList = List.replicate n (.int .i64 0) := by
  apply List.ext_getElem
  · simp [madeCells]
  · intro i h1 h2
    simp [madeCells, Nat.mod_one]
theorem made_four (n : Nat) : (madeCells #[.int .i64 0, .int .i64 0, .int .i64 0, .int .i64 0] n).toList = List.replicate n (.int .i64 0) := by
  apply List.ext_getElem
  · simp [madeCells]
  · intro i h1 h2
    have : i % 4 = 0 ∨ i % 4 = 1 ∨ i % 4 = 2 ∨ i % 4 = 3 := by omega
    rcases this with h | h | h | h <;> simp [madeCells, h]
theorem made_block {w w3 : World} {E : TypeId} {z n : Nat} {xs : List Value} (ho : w3.ownsRow w.heap.size E z (.slice (some ⟨w.heap.size, 0, none⟩) n n) n xs) (hg : w.grownBy w3 none) : w3.heap[w.heap.size]? = some (.cells xs.toArray E (0, 0)) ∧ Below w.heap.size w w3 := by
  refine ⟨?_, (Below.refl w.heap.size w).grown hg (Nat.le_refl _) (by intro k hk; cases hk)⟩
  rcases ho.2 with ⟨hv, _⟩ | ⟨g', cap', cur, hv, hb, hgg, hnc, hcm, hcs, ht⟩
  · cases hv
  · cases hv
    rw [hgg]
    have : cur.toList = xs := by rw [← ht, List.take_of_length_le (by simp [hcs])]
    rw [← this]
theorem drop_rep {α : Type} (a b : Nat) (x : α) : (List.replicate (a + b) x).drop a = List.replicate b x := by
  rw [List.drop_replicate, Nat.add_sub_cancel_left]
theorem set_any {w : World} {b i : Nat} {cs : Array Value} {T : TypeId} {fr : Nat × Nat} (hb : w.heap[b]? = some (.cells cs T fr)) (v : Value) : (w.setCell ⟨b, i, none⟩ v).heap[b]? = some (.cells (cs.setIfInBounds i v) T fr) := by
  simp [World.setCell, Array.getElem?_modify, hb]
theorem size3 : (Tryz.prog.info? 3).map (·.size) = some 1 := by kernel_rfl
theorem size35 : (Tryz.prog.info? 65).map (·.size) = some 4 := by kernel_rfl
theorem size42 : (Tryz.prog.info? 79).map (·.size) = some 4 := by kernel_rfl
/-- What copied lays: a list, and behind it a mark. -/
def rowI (l : List Qd) : List Value := qdVals l ++ [.int .i64 79, .int .i64 0, .int .i64 0, .int .i64 0, .int .i64 0, .int .i64 0, .int .i64 0, .int .i64 0]
/-- A row laid, and all below it as it was. -/
structure Laid (w : World) (E : TypeId) (xs : List Value) (W : World) : Prop where
  row : W.heap[w.heap.size]? = some (.cells xs.toArray E (0, 0))
  low : Below w.heap.size w W
theorem Laid.set {w : World} {E : TypeId} {xs ys : List Value} {W : World} (h : Laid w E xs W) (i : Nat) (v : Value) (hy : xs.set i v = ys) : Laid w E ys (W.setCell ⟨w.heap.size, i, none⟩ v) := by
  refine ⟨?_, h.low.setCell (p := ⟨w.heap.size, i, none⟩) (Nat.le_refl _) v⟩
  rw [set_any h.row, ← hy]
  simp
theorem Laid.cell {w : World} {E : TypeId} {xs : List Value} {W : World} (h : Laid w E xs W) (i : Nat) (v : Value) (hv : xs[i]? = some v) : W.cell? ⟨w.heap.size, i, none⟩ = some v ∧ W.frozen? ⟨w.heap.size, i, none⟩ = false :=
  ⟨cell_block h.row i v (by simpa using hv), frozen_of_row W _ i _ _ h.row⟩
theorem set_end {α : Type} {l : List α} {n : Nat} (hl : l.length = n) (m : Nat) (t t2 : List α) (v : α) (h : t.set m v = t2) : (l ++ t).set (n + m) v = l ++ t2 := by
  rw [List.set_append_right _ _ (by omega), hl, Nat.add_sub_cancel_left, h]
theorem get_end {α : Type} {l : List α} {n : Nat} (hl : l.length = n) (m : Nat) (t : List α) (v : α) (h : t[m]? = some v) : (l ++ t)[n + m]? = some v := by
  rw [List.getElem?_append_right (by omega), hl, Nat.add_sub_cancel_left, h]
end Go.Proofs.YtnkfibahkmmnpaaGreat
namespace Go.Proofs.YtnkfibahkmmnpaaGreat
open Go.RowKit

/-- A code that was copied: its lists lie in rows of their own, with a mark behind the instructions. -/
structure CopAt (W : World) (c : Cd) (g1 g2 g3 g4 : Nat) : Prop where
  t : W.heap[g1]? = some (.cells (intVals c.table).toArray 3 (0, 0))
  k : W.heap[g2]? = some (.cells (intVals c.consts).toArray 3 (0, 0))
  i : W.heap[g3]? = some (.cells (rowI c.cell).toArray 65 (0, 0))
  r : W.heap[g4]? = some (.cells (qdVals c.arrows).toArray 79 (0, 0))
theorem CopAt.next {W W2 : World} {c : Cd} {g1 g2 g3 g4 : Nat} (h : CopAt W c g1 g2 g3 g4) (hb : Below W.heap.size W W2) : CopAt W2 c g1 g2 g3 g4 :=
  ⟨by rw [hb.block _ (lt_block h.t)]; exact h.t, by rw [hb.block _ (lt_block h.k)]; exact h.k, by rw [hb.block _ (lt_block h.i)]; exact h.i, by rw [hb.block _ (lt_block h.r)]; exact h.r⟩
def copS (c : Cd) (g1 g2 g3 g4 : Nat) : Ls := ⟨⟨some ⟨g1, 0, none⟩, c.table.length, c.table.length⟩, ⟨some ⟨g2, 0, none⟩, c.consts.length, c.consts.length⟩, ⟨some ⟨g3, 0, none⟩, c.cell.length, c.cell.length + 2⟩, ⟨some ⟨g4, 0, none⟩, c.arrows.length, c.arrows.length⟩⟩
theorem rowT_at {W : World} {g : Nat} {l : List Int} {m : List Value} (h : W.heap[g]? = some (.cells (intVals l ++ m).toArray 3 (0, 0))) (hl : l.length ≤ maxLen) : IntsAt W (some ⟨g, 0, none⟩) l.length l := by
  refine ⟨rfl, hl, fun _ => ⟨g, 0, rfl, fun i hi => ?_⟩⟩
  rw [Nat.zero_add]
  refine cell_block h i _ ?_
  rw [List.getElem?_toArray, List.getElem?_append_left (by rw [intVals_length]; exact hi), intVals, List.getElem?_map, getD_get hi]
  rfl
theorem rowQ_at {W : World} {g : Nat} {l : List Qd} {m : List Value} {E : TypeId} (h : W.heap[g]? = some (.cells (qdVals l ++ m).toArray E (0, 0))) (hl : l.length ≤ maxLen) : QdsAt W (some ⟨g, 0, none⟩) l.length l := by
  refine ⟨rfl, hl, fun _ => ⟨g, 0, rfl, fun i q hi => ?_⟩⟩
  have key : ∀ j u, (qdCells q)[j]? = some u → W.cell? ⟨g, i * 4 + j, none⟩ = some u := fun j u hu => by
    refine cell_block h _ _ ?_
    have h1 := flat_get qd_len l i q j u hi hu
    have h2 : i * 4 + j < (qdVals l).length := (List.getElem?_eq_some_iff.1 h1).1
    rw [List.getElem?_toArray, List.getElem?_append_left h2]
    exact h1
  simp only [Nat.zero_add]
  exact ⟨key 0 _ rfl, key 1 _ rfl, key 2 _ rfl, key 3 _ rfl⟩
theorem CopAt.at' {W : World} {c : Cd} {g1 g2 g3 g4 : Nat} (h : CopAt W c g1 g2 g3 g4) (h1 : c.table.length ≤ maxLen) (h2 : c.consts.length ≤ maxLen) (h3 : c.cell.length ≤ maxLen) (h4 : c.arrows.length ≤ maxLen) : CdAt W c (copS c g1 g2 g3 g4) :=
  ⟨rowT_at (m := []) (by simpa using h.t) h1, rowT_at (m := []) (by simpa using h.k) h2, rowQ_at h.i h3, rowQ_at (m := []) (by simpa using h.r) h4⟩
/-- The boxes: the code's, the result's, the copy's. -/
structure Cp (w : World) (cs ds : Array Value) (W : World) : Prop where
  low : Below w.heap.size w W
  box : W.heap[w.heap.size]? = some (.cells cs 26 (0, 0))
  res : W.heap[w.heap.size + 1]? = some (.cells #[.int .i64 0, .int .i64 0, .int .i64 0, .int .i64 0, .int .i64 0, .int .i64 0, .slice none 0 0, .slice none 0 0, .slice none 0 0, .slice none 0 0] 26 (0, 0))
  dbx : W.heap[w.heap.size + 2]? = some (.cells ds 26 (0, 0))
section
variable {w W W2 : World} {cs ds : Array Value}
theorem Cp.next (h : Cp w cs ds W) (hb : Below W.heap.size W W2) : Cp w cs ds W2 :=
  ⟨h.low.trans (hb.mono h.low.size), by rw [hb.block _ (lt_block h.box)]; exact h.box, by rw [hb.block _ (lt_block h.res)]; exact h.res, by rw [hb.block _ (lt_block h.dbx)]; exact h.dbx⟩
theorem Cp.nextB (h : Cp w cs ds W) {B : Nat} (hB : w.heap.size + 2 < B) (hb : Below B W W2) : Cp w cs ds W2 :=
  ⟨h.low.trans (hb.mono (by omega)), by rw [hb.block _ (by omega)]; exact h.box, by rw [hb.block _ (by omega)]; exact h.res, by rw [hb.block _ hB]; exact h.dbx⟩
theorem Cp.c (h : Cp w cs ds W) (i : Nat) (v : Value) (hv : cs[i]? = some v) : W.cell? ⟨w.heap.size, i, none⟩ = some v := cell_block h.box i v hv
theorem Cp.d (h : Cp w cs ds W) (i : Nat) (v : Value) (hv : ds[i]? = some v) : W.cell? ⟨w.heap.size + 2, i, none⟩ = some v := cell_block h.dbx i v hv
theorem Cp.fz (h : Cp w cs ds W) (i : Nat) : W.frozen? ⟨w.heap.size + 2, i, none⟩ = false := frozen_of_row W _ i _ _ h.dbx
theorem Cp.put {es : Array Value} (h : Cp w cs ds W) (i : Nat) (v : Value) (he : ds.setIfInBounds i v = es) : Cp w cs es (W.setCell ⟨w.heap.size + 2, i, none⟩ v) :=
  ⟨h.low.setCell (p := ⟨w.heap.size + 2, i, none⟩) (by show w.heap.size ≤ w.heap.size + 2; omega) v, by rw [Below.heap_setCell _ _ _ _ (by show w.heap.size ≠ w.heap.size + 2; omega)]; exact h.box, by rw [Below.heap_setCell _ _ _ _ (by show w.heap.size + 1 ≠ w.heap.size + 2; omega)]; exact h.res, by rw [heap_setCell_same _ _ _ _ _ _ h.dbx, he]⟩
theorem Cp.row (h : Cp w cs ds W) (i : Nat) (v : Value) {g : Nat} {xs : Array Value} {t : TypeId} (ht : t ≠ 26) (hg : W.heap[g]? = some (.cells xs t (0, 0))) : (W.setCell ⟨w.heap.size + 2, i, none⟩ v).heap[g]? = some (.cells xs t (0, 0)) := by
  rw [Below.heap_setCell _ _ _ _ (fun e => by have e' : g = w.heap.size + 2 := e; rw [e', h.dbx] at hg; cases hg; exact ht rfl)]; exact hg
theorem Cp.start (w : World) (cs : Array Value) : Cp w cs cs (((w.alloc (.cells cs 26)).alloc (.cells #[.int .i64 0, .int .i64 0, .int .i64 0, .int .i64 0, .int .i64 0, .int .i64 0, .slice none 0 0, .slice none 0 0, .slice none 0 0, .slice none 0 0] 26)).alloc (.cells cs 26)) := by
  have key : ∀ {W : World} {b : Nat} {o : Obj}, W.heap.size = b → (W.alloc o).heap[b]? = some o := fun h => by rw [← h]; exact heap_alloc_new _ _
  refine ⟨((below_new _).alloc (by simp) _).alloc (by simp; omega) _, ?_, ?_, key (by simp)⟩
  · rw [(below_new _).block _ (by simp; omega), (below_new _).block _ (by simp)]; exact heap_alloc_new _ _
  · rw [(below_new _).block _ (by simp)]; exact key (by simp)
end
theorem heap_setOther {W : World} {b i g : Nat} {cs xs : Array Value} {t u : TypeId} {f f2 : Nat × Nat} (v : Value) (hb : W.heap[b]? = some (.cells cs t f)) (hg : W.heap[g]? = some (.cells xs u f2)) (hne : u ≠ t) : (W.setCell ⟨b, i, none⟩ v).heap[g]? = W.heap[g]? :=
  Below.heap_setCell _ _ _ _ (fun e => by have e' : g = b := e; rw [e', hb] at hg; cases hg; exact hne rfl)
structure CopR (w W : World) (c : Cd) (g1 g2 g3 g4 r : Nat) : Prop where
  cop : CopAt W c g1 g2 g3 g4
  low : Below w.heap.size w W
  le : w.heap.size ≤ r
  box : ∃ zs, W.heap[r]? = some (.cells zs 26 (0, 0))
theorem CopR.set {w W : World} {c : Cd} {g1 g2 g3 g4 r : Nat} (h : CopR w W c g1 g2 g3 g4 r) (i : Nat) (v : Value) : CopR w (W.setCell ⟨r, i, none⟩ v) c g1 g2 g3 g4 r := by
  obtain ⟨hc, hl, hle, zs, hz⟩ := h
  refine ⟨⟨?_, ?_, ?_, ?_⟩, hl.setCell (p := ⟨r, i, none⟩) hle v, hle, _, heap_setCell_same _ _ _ _ _ _ hz⟩
  · rw [heap_setOther _ hz hc.t (by decide)]; exact hc.t
  · rw [heap_setOther _ hz hc.k (by decide)]; exact hc.k
  · rw [heap_setOther _ hz hc.i (by decide)]; exact hc.i
  · rw [heap_setOther _ hz hc.r (by decide)]; exact hc.r
theorem row_next {W W2 : World} {g : Nat} {o : Obj} (h : W.heap[g]? = some o) (hb : Below W.heap.size W W2) : W2.heap[g]? = some o := by rw [hb.block _ (lt_block h)]; exact h
theorem info35 : (Tryz.prog.info? 65).map (fun i => (i.zero, i.size, i.bytes)) = some (some (.agg #[.int .i64 0, .int .i64 0, .int .i64 0, .int .i64 0]), 4, 32) := by kernel_rfl
theorem info42 : (Tryz.prog.info? 79).map (fun i => (i.zero, i.size, i.bytes)) = some (some (.agg #[.int .i64 0, .int .i64 0, .int .i64 0, .int .i64 0]), 4, 32) := by kernel_rfl

end Go.Proofs.YtnkfibahkmmnpaaGreat
