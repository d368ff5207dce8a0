/-
  Rows and columns exchanged: the model that is built, in memory.
-/
import Derived.Test.YtegndeefddlccabPsQ
import Derived.Test.YtegndeefddlccabPmB
import Derived.Deep.RegionLaw
namespace Go.Proofs.Ytegndeefddlccab
open Go.RowKit

theorem step_append_own {P : Program} {ops : Array Oper} {o : Oper} {a : Act} {w : World} {K : Act → World → Prop} {Q : Exit → Act → World → Prop} {E : Prop}
    (hg : o.guard = none) (s x : Operand) (t : TypeId) (hop : o.op = Op.call { callee := Callee.builtin Builtin.append, args := #[s, x], argTypes := #[t, t] })
    (base : Nat) (e : TypeId) (i : TypeInfo) (z : Value) (size bytes : Nat) (h1 : P.underlying t = some (.slice e)) (h2 : P.info? e = some i) (h3 : i.zero = some z) (h4 : i.size = size) (h5 : i.bytes = bytes) (h6 : z.cells.size = size) (h7 : 0 < size)
    (v : Value) (n : Nat) (xs : List Value) (hs : a.eval s = v) (hown : w.ownsRow base e size v n xs)
    (ad : Addr) (m c : Nat) (news : List Value) (hx : a.eval x = .slice (some ad) m c) (hn : news.length = m * size) (hc : ∀ j u, news[j]? = some u → w.cell? (ad.add j) = some u) (h1c : ∀ u ∈ news, u.oneCell' = true)
    (b1 : n + m ≤ maxLen) (b2 : (n + m) * bytes ≤ 140737488355328) (hbase : base ≤ w.heap.size)
    (hK : ∀ v' w', w'.ownsRow base e size v' (n + m) (xs ++ news) → w.grownBy w' v.ownBlock → K (a.put o.dst v') w') :
    if Region.wanted o (yielded ops a.tmps) = true then Oper.wp P o a w K Q else E := by
  have hw : Region.wanted o (yielded ops a.tmps) = true := by simp [Region.wanted, hg]
  rw [if_pos hw]
  obtain ⟨v', w', hrun, r1, r2, _⟩ := run_append_own (P := P) w base t o.type e i z size bytes h1 h2 h3 h4 h5 h6 h7 v n xs hown ad m c news hn hc h1c b1 b2 hbase
  unfold Oper.wp
  simp [execOp, hop, resolve, invoke, builtin, hs, hx, hrun, Result.andThen]
  exact hK v' w' r1 r2
theorem shape_own {w : World} {base : Nat} {e : TypeId} {size : Nat} {v : Value} {n : Nat} {xs : List Value} (h : w.ownsRow base e size v n xs) : ∃ ao cap, v = .slice ao n cap := by
  rcases h.2 with ⟨hv, h0⟩ | ⟨g, cap, cur, hv, _⟩
  · subst h0; exact ⟨none, 0, hv⟩
  · exact ⟨_, cap, hv⟩
theorem from_own {w : World} {base : Nat} {e : TypeId} {size : Nat} {v : Value} {n : Nat} {xs : List Value} (h : w.ownsRow base e size v n xs) : ∀ k, v.ownBlock = some k → base ≤ k := by
  intro k hk
  rcases h.2 with ⟨hv, _⟩ | ⟨g, cap, cur, hv, hb, _⟩
  · rw [hv] at hk; cases hk
  · rw [hv] at hk; cases hk; exact hb
theorem own_below {w w2 : World} {base : Nat} {e : TypeId} {size : Nat} {v : Value} {n : Nat} {xs : List Value} (h : w.ownsRow base e size v n xs) (hb : Below w.heap.size w w2) : w2.ownsRow base e size v n xs := by
  refine ⟨h.1, ?_⟩
  rcases h.2 with h0 | ⟨g, cap, cur, hv, hbb, hc, hr⟩
  · exact .inl h0
  · exact .inr ⟨g, cap, cur, hv, hbb, by rw [hb.block _ (Array.getElem?_eq_some_iff.1 hc).1]; exact hc, hr⟩
/-- The model that was handed in stands, and the one that is built has so many costs. -/
structure MS (w : World) (mc : Array Value) (s : Md) (ga : Option Addr) (gn gc : Nat) (bt : Nat) (va : Option Addr) (k vc : Nat) (xs : List Int) (wr : World) : Prop where
  low : Below w.heap.size w wr
  box : wr.heap[w.heap.size]? = some (.cells mc 25 (0, 0))
  lt : w.heap.size < bt
  tb : wr.heap[bt]? = some (.cells (mdCells s va k vc ga gn gc) 25 (0, 0))
  own : wr.ownsRow (bt + 1) 3 1 (.slice va k vc) k (intVals xs)
section
variable {w : World} {mc : Array Value} {s : Md} {ga : Option Addr} {gn gc bt : Nat} {va : Option Addr} {k vc : Nat} {xs : List Int} {wr : World}
theorem MS.next (h : MS w mc s ga gn gc bt va k vc xs wr) {w2 : World} (hb : Below wr.heap.size wr w2) : MS w mc s ga gn gc bt va k vc xs w2 :=
  ⟨h.low.trans (hb.mono h.low.size), by rw [hb.block _ (Array.getElem?_eq_some_iff.1 h.box).1]; exact h.box, h.lt, by rw [hb.block _ (Array.getElem?_eq_some_iff.1 h.tb).1]; exact h.tb, own_below h.own hb⟩
theorem MS.alloc (h : MS w mc s ga gn gc bt va k vc xs wr) (o : Obj) : MS w mc s ga gn gc bt va k vc xs (wr.alloc o) := h.next ((Below.refl _ _).alloc (Nat.le_refl _) _)
theorem MS.drew (h : MS w mc s ga gn gc bt va k vc xs wr) : MS w mc s ga gn gc bt va k vc xs wr.drew := h.next (Below.refl _ _).drew
theorem MS.cell (h : MS w mc s ga gn gc bt va k vc xs wr) (i : Nat) (v : Value) (hv : (mdCells s va k vc ga gn gc)[i]? = some v) : wr.cell? ⟨bt, i, none⟩ = some v := cell_block h.tb i v hv
theorem MS.old (h : MS w mc s ga gn gc bt va k vc xs wr) (i : Nat) (v : Value) (hv : mc[i]? = some v) : wr.cell? ⟨w.heap.size, i, none⟩ = some v := cell_block h.box i v hv
theorem MS.add (h : MS w mc s ga gn gc bt va k vc xs wr) {v' : Value} {w4 : World} {z : Int} (ho : w4.ownsRow (bt + 1) 3 1 v' (k + 1) (intVals xs ++ [.int .i64 z])) (hg : wr.grownBy w4 (Value.slice va k vc).ownBlock) :
    w4.cell? ⟨bt, 1, none⟩ = some (.slice va k vc) ∧ w4.frozen? ⟨bt, 1, none⟩ = false ∧ ∃ va' vc', v' = .slice va' (k + 1) vc' ∧ MS w mc s ga gn gc bt va' (k + 1) vc' (xs ++ [z]) (w4.setCell ⟨bt, 1, none⟩ v') := by
  have hf := from_own h.own
  have hlt := h.lt
  have hsz := (Array.getElem?_eq_some_iff.1 h.box).1
  have hbl := (Array.getElem?_eq_some_iff.1 h.tb).1
  have e1 : w4.heap[bt]? = wr.heap[bt]? := hg.block bt hbl (fun e => by have := hf bt e.symm; omega)
  have e2 : w4.heap[w.heap.size]? = wr.heap[w.heap.size]? := hg.block _ hsz (fun e => by have := hf _ e.symm; omega)
  have tb4 : w4.heap[bt]? = some (.cells (mdCells s va k vc ga gn gc) 25 (0, 0)) := e1.trans h.tb
  have low4 : Below w.heap.size w w4 := h.low.grown hg (by omega) (fun q hq => by have := hf q hq; omega)
  refine ⟨cell_block tb4 1 _ rfl, frozen_of_row w4 bt 1 _ 25 tb4, ?_⟩
  obtain ⟨va', vc', rfl⟩ := shape_own ho
  refine ⟨va', vc', rfl, ?_, ?_, hlt, ?_, ?_⟩
  · exact low4.setCell (p := ⟨bt, 1, none⟩) (by show w.heap.size ≤ bt; omega) _
  · rw [Below.heap_setCell _ _ _ _ (by show w.heap.size ≠ bt; omega), e2]; exact h.box
  · have := heap_setCell_same w4 bt 1 _ 25 (.slice va' (k + 1) vc') tb4
    rw [this]; rfl
  · have := ownsRow_setCell_below ho (a := ⟨bt, 1, none⟩) (by show bt < bt + 1; omega) (.slice va' (k + 1) vc')
    rw [show intVals (xs ++ [z]) = intVals xs ++ [.int .i64 z] by simp [intVals]]
    exact this
end
theorem mir_snoc {L : Nat} {s : List Int} {a b : Nat} (ha : a < L) (hb : b < L) : (mirS L s).take (a * L + b + 1) = (mirS L s).take (a * L + b) ++ [s.getD (b * L + a) 0] := by
  have hlt : a * L + b < L * L := by
    have : (a + 1) * L ≤ L * L := Nat.mul_le_mul_right L ha
    rw [Nat.add_mul] at this
    omega
  refine take_snocD _ _ _ ?_
  unfold mirS
  rw [List.getElem?_map, List.getElem?_range hlt]
  show some (s.getD ((a * L + b) % L * L + (a * L + b) / L) 0) = _
  rw [show (a * L + b) % L = b by rw [Nat.mul_comm, Nat.mul_add_mod, Nat.mod_eq_of_lt hb], show (a * L + b) / L = a by rw [Nat.mul_comm, Nat.mul_add_div (by omega), Nat.div_eq_of_lt hb, Nat.add_zero]]

end Go.Proofs.Ytegndeefddlccab
