/-
  A model that a call builds, its lists rows of the call's own.
-/
import Derived.Test.YtaicppkhdfiokaaBdQ
import Derived.Test.YtaicppkhdfiokaaBdS
namespace Go.Proofs.Ytaicppkhdfiokaa
open Go.RowKit

theorem step_append_own {P : Program} {ops : Array Oper} {o : Oper} {a : Act} {w : World} {K : Act → World → Prop} {Q : Exit → Act → World → Prop} {E : Prop}
    (hg : o.guard = none) (s x : Operand) (t : TypeId) (hop : o.op = Op.call { callee := Callee.builtin Builtin.append, args := #[s, x], argTypes := #[t, t] })
    (base : Nat) (e : TypeId) (i : TypeInfo) (z : Value) (size bytes : Nat) (h1 : P.underlying t = some (.slice e)) (h2 : P.info? e = some i) (h3 : i.zero = some z) (h4 : i.size = size) (h5 : i.bytes = bytes) (h6 : z.cells.size = size) (h7 : 0 < size)
    (v : Value) (n : Nat) (xs : List Value) (hs : a.eval s = v) (hown : w.ownsRow base e size v n xs)
    (ad : Addr) (m c : Nat) (news : List Value) (hx : a.eval x = .slice (some ad) m c) (hn : news.length = m * size) (hc : ∀ j u, news[j]? = some u → w.cell? (ad.add j) = some u) (h1c : ∀ u ∈ news, u.oneCell' = true)
    (b1 : n + m ≤ maxLen) (b2 : (n + m) * bytes ≤ 140737488355328) (hbase : base ≤ w.heap.size)
    (hK : ∀ v' w', w'.ownsRow base e size v' (n + m) (xs ++ news) → w.grownBy w' v.ownBlock → K (a.put o.dst v') w') :
    if Region.wanted o (yielded ops a.tmps) = true then Oper.wp P o a w K Q else E := by
  have hw : Region.wanted o (yielded ops a.tmps) = true := by simp [Region.wanted, hg]
  rw [if_pos hw]
  obtain ⟨v', w', hrun, r1, r2, _⟩ := run_append_own (P := P) w base t o.type e i z size bytes h1 h2 h3 h4 h5 h6 h7 v n xs hown ad m c news hn hc h1c b1 b2 hbase
  unfold Oper.wp
  simp [execOp, hop, resolve, invoke, builtin, hs, hx, hrun, Result.andThen]
  exact hK v' w' r1 r2
theorem owned_of_block {w w' : World} {base : Nat} {e : TypeId} {size : Nat} {v : Value} {n : Nat} {xs : List Value} (h : w.ownsRow base e size v n xs)
    (hk : ∀ g cur, v.ownBlock = some g → w.heap[g]? = some (.cells cur e (0, 0)) → w'.heap[g]? = w.heap[g]?) : w'.ownsRow base e size v n xs := by
  refine ⟨h.1, ?_⟩
  rcases h.2 with hn | ⟨g, cap, cur, hv, hb, hg, rest⟩
  · exact .inl hn
  · exact .inr ⟨g, cap, cur, hv, hb, by rw [hk g cur (by rw [hv]; rfl) hg]; exact hg, rest⟩
theorem owned_below {w w' : World} {base : Nat} {e : TypeId} {size : Nat} {v : Value} {n : Nat} {xs : List Value} (h : w.ownsRow base e size v n xs) (hb : Below w.heap.size w w') : w'.ownsRow base e size v n xs :=
  owned_of_block h fun g _ _ hg => hb.block g (lt_block hg)
theorem owned_grown {w w' : World} {base : Nat} {e t : TypeId} {size : Nat} {v : Value} {n : Nat} {xs : List Value} (h : w.ownsRow base e size v n xs) {v2 : Value} {n2 : Nat} {xs2 : List Value} {base2 size2 : Nat}
    (h2 : w.ownsRow base2 t size2 v2 n2 xs2) (hne : e ≠ t) (hg : w.grownBy w' v2.ownBlock) : w'.ownsRow base e size v n xs :=
  owned_of_block h fun g cur _ hc => hg.block g (lt_block hc) (fun e' => by
    rcases h2.2 with ⟨hv, _⟩ | ⟨g', cap', cur', hv, _, hg', _⟩
    · rw [hv] at e'; cases e'
    · rw [hv] at e'; simp [Value.ownBlock] at e'; subst e'; rw [hg'] at hc; cases hc; exact hne rfl)
theorem owned_from {w : World} {base : Nat} {e : TypeId} {size : Nat} {v : Value} {n : Nat} {xs : List Value} (h : w.ownsRow base e size v n xs) : ∀ k, v.ownBlock = some k → base ≤ k := by
  intro k hk
  rcases h.2 with ⟨hv, _⟩ | ⟨g, cap, cur, hv, hb, _⟩
  · rw [hv] at hk; cases hk
  · rw [hv] at hk; cases hk; exact hb
theorem cells_new (W : World) (l : List Value) (ty : TypeId) : ∀ (i : Nat) (u : Value), l[i]? = some u → (W.alloc (.cells l.toArray ty)).cell? ((⟨W.heap.size, 0, none⟩ : Addr).add i) = some u := by
  intro i u hu
  rw [Go.WideShapes.add_plain, Nat.zero_add]
  exact cell_block (heap_alloc_new W _) i u (by simpa using hu)

structure SX (w : World) (cs : Array Value) (s : Md) (bs : Nat) (va : Option Addr) (k vc : Nat) (ua : Option Addr) (j uc : Nat) (xs : List Int) (ys : List (Int × Int)) (wr : World) : Prop where
  bx : Bx w cs wr
  lt : w.heap.size < bs
  sb : wr.heap[bs]? = some (.cells (mdCells s va k vc ua j uc) 25 (0, 0))
  su : wr.ownsRow (bs + 1) 3 1 (.slice va k vc) k (intVals xs)
  gp : wr.ownsRow (bs + 1) 32 2 (.slice ua j uc) j (gapVals ys)
theorem SX.start {w : World} {cs : Array Value} {W : World} (h : Bx w cs W) (s : Md) : SX w cs s W.heap.size none 0 0 none 0 0 [] [] (W.alloc (.cells (mdCells s none 0 0 none 0 0) 25)) :=
  ⟨h.alloc _, h.size, heap_alloc_new W _, ⟨rfl, .inl ⟨rfl, rfl⟩⟩, ⟨rfl, .inl ⟨rfl, rfl⟩⟩⟩
section
variable {w : World} {cs : Array Value} {s : Md} {bs : Nat} {va : Option Addr} {k vc : Nat} {ua : Option Addr} {j uc : Nat} {xs : List Int} {ys : List (Int × Int)} {wr : World}
theorem SX.next (h : SX w cs s bs va k vc ua j uc xs ys wr) {w2 : World} (hb : Below wr.heap.size wr w2) : SX w cs s bs va k vc ua j uc xs ys w2 :=
  ⟨h.bx.next hb, h.lt, by rw [hb.block _ (lt_block h.sb)]; exact h.sb, owned_below h.su hb, owned_below h.gp hb⟩
theorem SX.alloc (h : SX w cs s bs va k vc ua j uc xs ys wr) (o : Obj) : SX w cs s bs va k vc ua j uc xs ys (wr.alloc o) := h.next ((Below.refl _ _).alloc (Nat.le_refl _) _)
theorem SX.drew (h : SX w cs s bs va k vc ua j uc xs ys wr) : SX w cs s bs va k vc ua j uc xs ys wr.drew := h.next (Below.refl _ _).drew
theorem SX.cell (h : SX w cs s bs va k vc ua j uc xs ys wr) (i : Nat) (v : Value) (hv : (mdCells s va k vc ua j uc)[i]? = some v) : wr.cell? ⟨bs, i, none⟩ = some v := cell_block h.sb i v hv
theorem SX.frozen (h : SX w cs s bs va k vc ua j uc xs ys wr) (i : Nat) : wr.frozen? ⟨bs, i, none⟩ = false := frozen_of_row wr bs i _ 25 h.sb
theorem SX.put (h : SX w cs s bs va k vc ua j uc xs ys wr) (i : Nat) (u : Value) : (wr.setCell ⟨bs, i, none⟩ u).heap[bs]? = some (.cells ((mdCells s va k vc ua j uc).setIfInBounds i u) 25 (0, 0)) := by
  have := heap_setCell_same wr bs i _ 25 u h.sb
  rw [this]
theorem SX.addS (h : SX w cs s bs va k vc ua j uc xs ys wr) {v' : Value} {w4 : World} {z : Int} (ho : w4.ownsRow (bs + 1) 3 1 v' (k + 1) (intVals xs ++ [.int .i64 z])) (hg : wr.grownBy w4 (Value.slice va k vc).ownBlock) :
    w4.cell? ⟨bs, 1, none⟩ = some (.slice va k vc) ∧ w4.frozen? ⟨bs, 1, none⟩ = false ∧ ∃ va' vc', v' = .slice va' (k + 1) vc' ∧ SX w cs s bs va' (k + 1) vc' ua j uc (xs ++ [z]) ys (w4.setCell ⟨bs, 1, none⟩ v') := by
  have hf := owned_from h.su
  have hlt := h.lt
  have hsz := h.bx.size
  have hbl := lt_block h.sb
  have e1 : w4.heap[bs]? = wr.heap[bs]? := hg.block bs hbl (fun e => by have := hf bs e.symm; omega)
  have e2 : w4.heap[w.heap.size]? = wr.heap[w.heap.size]? := hg.block _ hsz (fun e => by have := hf _ e.symm; omega)
  have sb4 : w4.heap[bs]? = some (.cells (mdCells s va k vc ua j uc) 25 (0, 0)) := e1.trans h.sb
  have low4 : Below w.heap.size w w4 := h.bx.low.grown hg (by omega) (fun q hq => by have := hf q hq; omega)
  have gp4 : w4.ownsRow (bs + 1) 32 2 (.slice ua j uc) j (gapVals ys) := owned_grown h.gp h.su (by decide) hg
  refine ⟨cell_block sb4 1 _ rfl, frozen_of_row w4 bs 1 _ 25 sb4, ?_⟩
  obtain ⟨va', vc', rfl⟩ := owned_shape ho
  refine ⟨va', vc', rfl, ⟨?_, ?_, ?_⟩, hlt, ?_, ?_, ?_⟩
  · exact low4.setCell (p := ⟨bs, 1, none⟩) (by show w.heap.size ≤ bs; omega) _
  · have := hg.size
    simp only [World.setCell, Array.size_modify]
    omega
  · rw [Below.heap_setCell _ _ _ _ (by show w.heap.size ≠ bs; omega), e2]; exact h.bx.box
  · have := heap_setCell_same w4 bs 1 _ 25 (.slice va' (k + 1) vc') sb4
    rw [this]; rfl
  · have := ownsRow_setCell_below ho (a := ⟨bs, 1, none⟩) (by show bs < bs + 1; omega) (.slice va' (k + 1) vc')
    rw [show intVals (xs ++ [z]) = intVals xs ++ [.int .i64 z] by simp [intVals]]
    exact this
  · exact ownsRow_setCell_below gp4 (a := ⟨bs, 1, none⟩) (by show bs < bs + 1; omega) _
theorem SX.addG (h : SX w cs s bs va k vc ua j uc xs ys wr) {v' : Value} {w4 : World} {g : Int × Int} (ho : w4.ownsRow (bs + 1) 32 2 v' (j + 1) (gapVals ys ++ [.int .i64 g.1, .int .i64 g.2])) (hg : wr.grownBy w4 (Value.slice ua j uc).ownBlock) :
    w4.cell? ⟨bs, 2, none⟩ = some (.slice ua j uc) ∧ w4.frozen? ⟨bs, 2, none⟩ = false ∧ ∃ ua' uc', v' = .slice ua' (j + 1) uc' ∧ SX w cs s bs va k vc ua' (j + 1) uc' xs (ys ++ [g]) (w4.setCell ⟨bs, 2, none⟩ v') := by
  have hf := owned_from h.gp
  have hlt := h.lt
  have hsz := h.bx.size
  have hbl := lt_block h.sb
  have e1 : w4.heap[bs]? = wr.heap[bs]? := hg.block bs hbl (fun e => by have := hf bs e.symm; omega)
  have e2 : w4.heap[w.heap.size]? = wr.heap[w.heap.size]? := hg.block _ hsz (fun e => by have := hf _ e.symm; omega)
  have sb4 : w4.heap[bs]? = some (.cells (mdCells s va k vc ua j uc) 25 (0, 0)) := e1.trans h.sb
  have low4 : Below w.heap.size w w4 := h.bx.low.grown hg (by omega) (fun q hq => by have := hf q hq; omega)
  have su4 : w4.ownsRow (bs + 1) 3 1 (.slice va k vc) k (intVals xs) := owned_grown h.su h.gp (by decide) hg
  refine ⟨cell_block sb4 2 _ rfl, frozen_of_row w4 bs 2 _ 25 sb4, ?_⟩
  obtain ⟨ua', uc', rfl⟩ := owned_shape ho
  refine ⟨ua', uc', rfl, ⟨?_, ?_, ?_⟩, hlt, ?_, ?_, ?_⟩
  · exact low4.setCell (p := ⟨bs, 2, none⟩) (by show w.heap.size ≤ bs; omega) _
  · have := hg.size
    simp only [World.setCell, Array.size_modify]
    omega
  · rw [Below.heap_setCell _ _ _ _ (by show w.heap.size ≠ bs; omega), e2]; exact h.bx.box
  · have := heap_setCell_same w4 bs 2 _ 25 (.slice ua' (j + 1) uc') sb4
    rw [this]; rfl
  · exact ownsRow_setCell_below su4 (a := ⟨bs, 2, none⟩) (by show bs < bs + 1; omega) _
  · have := ownsRow_setCell_below ho (a := ⟨bs, 2, none⟩) (by show bs < bs + 1; omega) (.slice ua' (j + 1) uc')
    rw [show gapVals (ys ++ [g]) = gapVals ys ++ [.int .i64 g.1, .int .i64 g.2] by simp [gapVals]]
    exact this
end
end Go.Proofs.Ytaicppkhdfiokaa
