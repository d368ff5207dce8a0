/-
  The finder of paths in memory: what it holds, what a step changes.
-/
import Derived.Test.YtegndeefddlccaaQaB
namespace Go.Proofs.Ytegndeefddlccaa
open Go.RowKit

def ownB (va : Option Addr) : Option Nat := va.map Addr.block
theorem ownB_eq (va : Option Addr) (n c : Nat) : (Value.slice va n c).ownBlock = ownB va := by cases va <;> rfl
def fnC13 (m : Md) (sa : Option Addr) (sn sc : Nat) (ga : Option Addr) (gn gc : Nat) (xa : Option Addr) (xn xc : Nat) (ya : Option Addr) (yn yc : Nat) (va : Option Addr) (n vc : Nat) : Array Value :=
  #[.int .i64 m.letters, .slice sa sn sc, .slice ga gn gc, .int .i64 m.mode, .bool m.banded, .int .i64 m.lo, .int .i64 m.hi, .int .i64 m.front, .int .i64 m.back, .int .i64 m.least, .slice xa xn xc, .slice ya yn yc, .slice va n vc]
/-- The cells of a finder but the last one. -/
structure Fd12 where
  m : Md
  sa : Option Addr
  sn : Nat
  sc : Nat
  ga : Option Addr
  gn : Nat
  gc : Nat
  xa : Option Addr
  xn : Nat
  xc : Nat
  ya : Option Addr
  yn : Nat
  yc : Nat
def Fd12.cells (d : Fd12) (va : Option Addr) (n vc : Nat) : Array Value := fnC13 d.m d.sa d.sn d.sc d.ga d.gn d.gc d.xa d.xn d.xc d.ya d.yn d.yc va n vc
structure FnAt (d : Fd12) (fb B : Nat) (L : List Pt) (va : Option Addr) (vc : Nat) (wr : World) : Prop where
  box : wr.heap[fb]? = some (.cells (d.cells va L.length vc) 67 (0, 0))
  row : wr.ownsRow B 33 3 (.slice va L.length vc) L.length (ptRow L)
  lt : fb < B
  big : B ≤ wr.heap.size
/-- What a call that goes on from a path leaves. -/
structure FnTo (fb : Nat) (va va' : Option Addr) (w w' : World) : Prop where
  bel : Below fb w w'
  same : ∀ g, g < w.heap.size → g ≠ fb → some g ≠ ownB va → w'.heap[g]? = w.heap[g]?
  own : ∀ g, ownB va' = some g → ownB va = some g ∨ w.heap.size ≤ g
theorem FnTo.refl (fb : Nat) (va : Option Addr) (w : World) : FnTo fb va va w w := ⟨Below.refl _ _, fun _ _ _ _ => rfl, fun _ h => .inl h⟩
theorem FnTo.of_below {fb : Nat} {va : Option Addr} {w w' : World} (h : Below w.heap.size w w') (hf : fb ≤ w.heap.size) : FnTo fb va va w w' := ⟨⟨h.os, h.tape, h.output, h.size, fun k hk => h.block k (by omega)⟩, fun g hg _ _ => h.block g hg, fun _ h => .inl h⟩
theorem FnTo.trans {fb : Nat} {va vb vc : Option Addr} {w1 w2 w3 : World} (h1 : FnTo fb va vb w1 w2) (h2 : FnTo fb vb vc w2 w3) : FnTo fb va vc w1 w3 := by
  refine ⟨h1.bel.trans h2.bel, fun g hg hf hv => ?_, fun g hg => ?_⟩
  · rw [h2.same g (by have := h1.bel.size; omega) hf ?_]
    · exact h1.same g hg hf hv
    · intro e
      rcases h1.own g e.symm with h | h
      · exact hv h.symm
      · omega
  · rcases h2.own g hg with h | h
    · exact h1.own g h
    · right; have := h1.bel.size; omega
theorem FnAt.next {d : Fd12} {fb B : Nat} {L : List Pt} {va : Option Addr} {vc : Nat} {wr w2 : World} (h : FnAt d fb B L va vc wr) (hb : Below wr.heap.size wr w2) : FnAt d fb B L va vc w2 := by
  refine ⟨by rw [hb.block _ (Array.getElem?_eq_some_iff.1 h.box).1]; exact h.box, ?_, h.lt, Nat.le_trans h.big hb.size⟩
  refine ⟨h.row.1, ?_⟩
  rcases h.row.2 with h0 | ⟨g, cap, cur, hv, hbb, hc, hr⟩
  · exact .inl h0
  · exact .inr ⟨g, cap, cur, hv, hbb, by rw [hb.block _ (Array.getElem?_eq_some_iff.1 hc).1]; exact hc, hr⟩
/-- Between two steps of 'goes': the finder, and the path's own box. -/
structure GoSt (d : Fd12) (fb B : Nat) (va0 : Option Addr) (p : Pt) (w : World) (L : List Pt) (va : Option Addr) (vc : Nat) (wr : World) : Prop where
  fn : FnAt d fb B L va vc wr
  to : FnTo fb va0 va w wr
  pb : wr.heap[w.heap.size]? = some (.cells #[.int .i64 p.i, .int .i64 p.j, .string (bs p.cols)] 33 (0, 0))
  ne : ownB va ≠ some w.heap.size
section
variable {d : Fd12} {fb B : Nat} {va0 : Option Addr} {p : Pt} {w : World} {L : List Pt} {va : Option Addr} {vc : Nat} {wr : World}
theorem FnAt.fb_lt (h : FnAt d fb B L va vc wr) : fb < wr.heap.size := (Array.getElem?_eq_some_iff.1 h.box).1
theorem FnAt.own_lt (h : FnAt d fb B L va vc wr) : ∀ g, ownB va = some g → B ≤ g ∧ g < wr.heap.size := fun g hg => h.row.lt g (by rw [ownB_eq]; exact hg)
theorem GoSt.start (h : FnAt d fb B L va vc w) : GoSt d fb B va p w L va vc (w.alloc (.cells #[.int .i64 p.i, .int .i64 p.j, .string (bs p.cols)] 33)) :=
  ⟨h.next (bl1 _ _), FnTo.of_below (bl1 _ _) (by have := h.fb_lt; omega), hp_at rfl, fun e => by have := (h.own_lt _ e).2; omega⟩
theorem GoSt.next (h : GoSt d fb B va0 p w L va vc wr) {w2 : World} (hb : Below wr.heap.size wr w2) : GoSt d fb B va0 p w L va vc w2 :=
  ⟨h.fn.next hb, h.to.trans (FnTo.of_below hb (by have := h.fn.fb_lt; omega)), by rw [hb.block _ (Array.getElem?_eq_some_iff.1 h.pb).1]; exact h.pb, h.ne⟩
theorem GoSt.call (h : GoSt d fb B va0 p w L va vc wr) {L' : List Pt} {va' : Option Addr} {vc' : Nat} {w2 : World} (hfn : FnAt d fb B L' va' vc' w2) (hto : FnTo fb va va' wr w2) (hf : fb ≠ w.heap.size) : GoSt d fb B va0 p w L' va' vc' w2 := by
  have hlt := (Array.getElem?_eq_some_iff.1 h.pb).1
  refine ⟨hfn, h.to.trans hto, ?_, fun e => ?_⟩
  · rw [hto.same _ hlt (fun e => hf e.symm) (fun e => h.ne e.symm)]; exact h.pb
  · rcases hto.own _ e with h1 | h1
    · exact h.ne h1
    · omega
theorem GoSt.fcell (h : GoSt d fb B va0 p w L va vc wr) (i : Nat) (v : Value) (hv : (d.cells va L.length vc)[i]? = some v) : wr.cell? ⟨fb, i, none⟩ = some v := cell_block h.fn.box i v hv
theorem GoSt.pcell (h : GoSt d fb B va0 p w L va vc wr) : wr.cell? ⟨w.heap.size, 0, none⟩ = some (.int .i64 p.i) ∧ wr.cell? ⟨w.heap.size, 1, none⟩ = some (.int .i64 p.j) ∧ wr.cell? ⟨w.heap.size, 2, none⟩ = some (.string (bs p.cols)) :=
  ⟨cell_block h.pb 0 _ rfl, cell_block h.pb 1 _ rfl, cell_block h.pb 2 _ rfl⟩
theorem set12 {W : World} {g : Nat} {va' : Option Addr} {n' vc' n : Nat} (h : W.heap[g]? = some (.cells (d.cells va n vc) 67 (0, 0))) : (W.setCell ⟨g, 12, none⟩ (.slice va' n' vc')).heap[g]? = some (.cells (d.cells va' n' vc') 67 (0, 0)) := by
  have := heap_setCell_same W g 12 _ 67 (.slice va' n' vc') h
  rw [this]; rfl
theorem GoSt.add (h : GoSt d fb B va0 p w L va vc wr) (hf : fb ≠ w.heap.size) {o : Obj} {v' : Value} {w4 : World} {q : Pt} (ho : w4.ownsRow B 33 3 v' (L.length + 1) (ptRow L ++ ptCells q)) (hg : (wr.alloc o).grownBy w4 (Value.slice va L.length vc).ownBlock) (hnew : ∀ g, v'.ownBlock = some g → some g = (Value.slice va L.length vc).ownBlock ∨ (wr.alloc o).heap.size ≤ g) :
    w4.cell? ⟨fb, 12, none⟩ = some (.slice va L.length vc) ∧ w4.frozen? ⟨fb, 12, none⟩ = false ∧ (w4.cell? ⟨w.heap.size, 0, none⟩ = some (.int .i64 p.i) ∧ w4.cell? ⟨w.heap.size, 1, none⟩ = some (.int .i64 p.j) ∧ w4.cell? ⟨w.heap.size, 2, none⟩ = some (.string (bs p.cols))) ∧ ∃ va' vc', v' = .slice va' (L.length + 1) vc' ∧ GoSt d fb B va0 p w (L ++ [q]) va' vc' (w4.setCell ⟨fb, 12, none⟩ v') := by
  rw [ownB_eq] at hg hnew
  have hal : (wr.alloc o).heap.size = wr.heap.size + 1 := by simp
  have hlt := h.fn.lt
  have hfl := h.fn.fb_lt
  have hpl := (Array.getElem?_eq_some_iff.1 h.pb).1
  have hne1 : some fb ≠ ownB va := fun e => by have := (h.fn.own_lt _ e.symm).1; omega
  have b1 : w4.heap[fb]? = some (.cells (d.cells va L.length vc) 67 (0, 0)) := by
    rw [hg.block fb (by omega) hne1, (bl1 wr o).block fb hfl]; exact h.fn.box
  have b2 : w4.heap[w.heap.size]? = some (.cells #[.int .i64 p.i, .int .i64 p.j, .string (bs p.cols)] 33 (0, 0)) := by
    rw [hg.block _ (by omega) (fun e => h.ne e.symm), (bl1 wr o).block _ hpl]; exact h.pb
  obtain ⟨va', vc', rfl⟩ := shape_pts ho
  rw [ownB_eq] at hnew
  have hb' : ∀ g, ownB va' = some g → B ≤ g := fun g e => (ho.lt g (by rw [ownB_eq]; exact e)).1
  have hsc : Below 0 w4 (w4.setCell ⟨fb, 12, none⟩ (.slice va' (L.length + 1) vc')) := (Below.refl 0 w4).setCell (p := ⟨fb, 12, none⟩) (Nat.zero_le _) _
  have hsz := hsc.size
  refine ⟨cell_block b1 12 _ rfl, frozen_of_row w4 fb 12 _ 67 b1, ⟨cell_block b2 0 _ rfl, cell_block b2 1 _ rfl, cell_block b2 2 _ rfl⟩, va', vc', rfl, ⟨?_, ?_, hlt, ?_⟩, ?_, ?_, ?_⟩
  · have := set12 (va' := va') (n' := L.length + 1) (vc' := vc') b1
    rw [this, List.length_append]; rfl
  · have := ownsRow_setCell_below ho (a := ⟨fb, 12, none⟩) (by show fb < B; exact hlt) (.slice va' (L.length + 1) vc')
    rw [ptRow_snoc, List.length_append]
    exact this
  · have := h.fn.big; have := hg.size; omega
  · refine h.to.trans ⟨⟨hsc.os.trans hg.os, hsc.tape.trans hg.tape, hsc.output.trans hg.output, by have := hg.size; omega, fun k hk => ?_⟩, fun g hgl hgf hgv => ?_, fun g e => ?_⟩
    · rw [Below.heap_setCell _ _ _ _ (by show k ≠ fb; omega), hg.block k (by omega) (fun e => by have := (h.fn.own_lt _ e.symm).1; omega), (bl1 wr o).block k (by omega)]
    · rw [Below.heap_setCell _ _ _ _ (by show g ≠ fb; exact hgf), hg.block g (by omega) hgv, (bl1 wr o).block g hgl]
    · rcases hnew g e with h1 | h1
      · exact .inl h1.symm
      · right; omega
  · rw [Below.heap_setCell _ _ _ _ (by show w.heap.size ≠ fb; exact fun e => hf e.symm)]; exact b2
  · intro e
    rcases hnew _ e with h1 | h1
    · exact h.ne h1.symm
    · omega
end
theorem step_append_fresh {P : Program} {ops : Array Oper} {o : Oper} {a : Act} {w : World} {K : Act → World → Prop} {Q : Exit → Act → World → Prop} {E : Prop}
    (hg : o.guard = none) (s x : Operand) (t : TypeId) (hop : o.op = Op.call { callee := Callee.builtin Builtin.append, args := #[s, x], argTypes := #[t, t] })
    (base : Nat) (e : TypeId) (i : TypeInfo) (z : Value) (size bytes : Nat) (h1 : P.underlying t = some (.slice e)) (h2 : P.info? e = some i) (h3 : i.zero = some z) (h4 : i.size = size) (h5 : i.bytes = bytes) (h6 : z.cells.size = size) (h7 : 0 < size)
    (v : Value) (n : Nat) (xs : List Value) (hs : a.eval s = v) (hown : w.ownsRow base e size v n xs)
    (ad : Addr) (m c : Nat) (news : List Value) (hx : a.eval x = .slice (some ad) m c) (hn : news.length = m * size) (hc : ∀ j u, news[j]? = some u → w.cell? (ad.add j) = some u) (h1c : ∀ u ∈ news, u.oneCell' = true)
    (b1 : n + m ≤ maxLen) (b2 : (n + m) * bytes ≤ 140737488355328) (hbase : base ≤ w.heap.size)
    (hK : ∀ v' w', w'.ownsRow base e size v' (n + m) (xs ++ news) → w.grownBy w' v.ownBlock → (∀ g, v'.ownBlock = some g → some g = v.ownBlock ∨ w.heap.size ≤ g) → K (a.put o.dst v') w') :
    if Region.wanted o (yielded ops a.tmps) = true then Oper.wp P o a w K Q else E := by
  have hw : Region.wanted o (yielded ops a.tmps) = true := by simp [Region.wanted, hg]
  rw [if_pos hw]
  obtain ⟨v', w', hrun, r1, r2, r3⟩ := run_append_fresh (P := P) w base t o.type e i z size bytes h1 h2 h3 h4 h5 h6 h7 v n xs hown ad m c news hn hc h1c b1 b2 hbase
  unfold Oper.wp
  simp [execOp, hop, resolve, invoke, builtin, hs, hx, hrun, Result.andThen]
  exact hK v' w' r1 r2 r3

end Go.Proofs.Ytegndeefddlccaa
