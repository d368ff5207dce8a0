/-
  Both codes' boxes, and the rows behind the second's.
-/
import Derived.Test.YtjpeoejielamiaaMlA
import Derived.Test.YtjpeoejielamiaaMpT
import Derived.Test.YtjpeoejielamiaaVcB
import Derived.Test.YtjpeoejielamiaaVdF
namespace Go.Proofs.Ytjpeoejielamiaa
open Go.RowKit

theorem sh_at (c : Cd) (n i : Nat) (q : Qd) (h : c.cell[i]? = some q) : (shI c n (c.cell.take i) ++ c.cell.drop i)[i]? = some q := by
  have hi : i < c.cell.length := (List.getElem?_eq_some_iff.1 h).1
  rw [List.getElem?_append_right (by rw [shI_length]; simp; omega), shI_length, List.getElem?_drop]
  rw [show i + (i - (c.cell.take i).length) = i by simp; omega]
  exact h
theorem take_q {c : Cd} {i : Nat} {q : Qd} (h : c.cell[i]? = some q) : c.cell.take (i + 1) = c.cell.take i ++ [q] := by
  have hi : i < c.cell.length := (List.getElem?_eq_some_iff.1 h).1
  have e : c.cell[i] = q := by have := (List.getElem?_eq_some_iff.1 h).2; exact this
  rw [← e]; simp
theorem drop_q {c : Cd} {i : Nat} {q : Qd} (h : c.cell[i]? = some q) : c.cell.drop i = q :: c.cell.drop (i + 1) := by
  have hi : i < c.cell.length := (List.getElem?_eq_some_iff.1 h).1
  have e : c.cell[i] = q := by have := (List.getElem?_eq_some_iff.1 h).2; exact this
  rw [← e]; exact List.drop_eq_getElem_cons hi
theorem sh_next (c : Cd) (z : Int) (n i : Nat) (q : Qd) (h : c.cell[i]? = some q) (hs : isS c q = true) :
    (shI c n (c.cell.take i) ++ c.cell.drop i).set i (q.1, q.2.1, ((n + (shK c z (c.cell.take i)).length : Nat) : Int), q.2.2.2) = shI c n (c.cell.take (i + 1)) ++ c.cell.drop (i + 1) := by
  have hi : i < c.cell.length := (List.getElem?_eq_some_iff.1 h).1
  rw [take_q h, shI_snoc c z, if_pos hs, drop_q h, List.set_append_right _ _ (by rw [shI_length]; simp; omega), shI_length]
  rw [show i - (c.cell.take i).length = 0 by simp; omega, List.set_cons_zero, List.append_assoc]
  rfl
theorem sh_skip (c : Cd) (n i : Nat) (q : Qd) (h : c.cell[i]? = some q) (hs : ¬ isS c q = true) :
    shI c n (c.cell.take i) ++ c.cell.drop i = shI c n (c.cell.take (i + 1)) ++ c.cell.drop (i + 1) := by
  rw [take_q h, shI_snoc c 0, if_neg hs, drop_q h, List.append_assoc]
  rfl
theorem shk_next (c : Cd) (z : Int) (i : Nat) (q : Qd) (h : c.cell[i]? = some q) (hs : isS c q = true) : shK c z (c.cell.take (i + 1)) = shK c z (c.cell.take i) ++ [wrap64 (c.consts.getD q.2.2.1.toNat 0 + z)] := by
  rw [take_q h, shK_snoc, if_pos hs]
theorem shk_skip (c : Cd) (z : Int) (i : Nat) (q : Qd) (h : c.cell[i]? = some q) (hs : ¬ isS c q = true) : shK c z (c.cell.take (i + 1)) = shK c z (c.cell.take i) := by
  rw [take_q h, shK_snoc, if_neg hs, List.append_nil]
theorem wrap_is (z : Int) : wrap64 z = IntKind.i64.wrap z := by
  rw [IntKind.wrap_i64]
  first | rfl | (unfold wrap64; rfl) | (unfold wrap64; omega)
/-- The boxes: the code's, the copy's. -/
structure Cq (w : World) (cs ds : Array Value) (bd : Nat) (W : World) : Prop where
  low : Below w.heap.size w W
  box : W.heap[w.heap.size + 1]? = some (.cells cs 26 (0, 0))
  dbx : W.heap[bd]? = some (.cells ds 26 (0, 0))
  lt : w.heap.size + 1 < bd
section
variable {w W W2 : World} {cs ds : Array Value} {bd : Nat}
theorem Cq.next (h : Cq w cs ds bd W) (hb : Below W.heap.size W W2) : Cq w cs ds bd W2 :=
  ⟨h.low.trans (hb.mono h.low.size), row_next h.box hb, row_next h.dbx hb, h.lt⟩
theorem Cq.nextB (h : Cq w cs ds bd W) {B : Nat} (hB : bd < B) (hb : Below B W W2) : Cq w cs ds bd W2 :=
  ⟨h.low.trans (hb.mono (by have := h.lt; omega)), by rw [hb.block _ (by have := h.lt; omega)]; exact h.box, by rw [hb.block _ hB]; exact h.dbx, h.lt⟩
theorem Cq.c (h : Cq w cs ds bd W) (i : Nat) (v : Value) (hv : cs[i]? = some v) : W.cell? ⟨w.heap.size + 1, i, none⟩ = some v := cell_block h.box i v hv
theorem Cq.d (h : Cq w cs ds bd W) (i : Nat) (v : Value) (hv : ds[i]? = some v) : W.cell? ⟨bd, i, none⟩ = some v := cell_block h.dbx i v hv
theorem Cq.fz (h : Cq w cs ds bd W) (i : Nat) : W.frozen? ⟨bd, i, none⟩ = false := frozen_of_row W _ i _ _ h.dbx
theorem Cq.put {es : Array Value} (h : Cq w cs ds bd W) (i : Nat) (v : Value) (he : ds.setIfInBounds i v = es) : Cq w cs es bd (W.setCell ⟨bd, i, none⟩ v) :=
  ⟨h.low.setCell (p := ⟨bd, i, none⟩) (by show w.heap.size ≤ bd; have := h.lt; omega) v, by rw [Below.heap_setCell _ _ _ _ (by show w.heap.size + 1 ≠ bd; have := h.lt; omega)]; exact h.box, by rw [heap_setCell_same _ _ _ _ _ _ h.dbx, he], h.lt⟩
theorem Cq.row (h : Cq w cs ds bd W) (i : Nat) (v : Value) {g : Nat} {xs : Array Value} {t : TypeId} (ht : t ≠ 26) (hg : W.heap[g]? = some (.cells xs t (0, 0))) : (W.setCell ⟨bd, i, none⟩ v).heap[g]? = some (.cells xs t (0, 0)) := by
  rw [Below.heap_setCell _ _ _ _ (fun e => by have e' : g = bd := e; rw [e', h.dbx] at hg; cases hg; exact ht rfl)]; exact hg
theorem own_row {W : World} {g base : Nat} {K : List Int} (h : W.heap[g]? = some (.cells (intVals K).toArray 3 (0, 0))) (hb : base ≤ g) (hn : K.length ≤ maxLen) : W.ownsRow base 3 1 (.slice (some ⟨g, 0, none⟩) K.length K.length) K.length (intVals K) :=
  ⟨by rw [intVals_length, Nat.mul_one], .inr ⟨g, K.length, (intVals K).toArray, rfl, hb, h, Nat.le_refl _, hn, by simp [intVals_length], by rw [List.toList_toArray, List.take_of_length_le (by rw [intVals_length]; omega)]⟩⟩
/-- The copy, with its constants and its instructions as they are. -/
structure Sh (w : World) (cs ds : Array Value) (bd gi : Nat) (kv : Value) (K : List Int) (L : List Qd) (W : World) : Prop where
  q : Cq w cs ds bd W
  ks : W.ownsRow bd 3 1 kv K.length (intVals K)
  li : W.heap[gi]? = some (.cells (qdVals L).toArray 39 (0, 0))
  gi : bd < gi
variable {gi : Nat} {kv : Value} {K : List Int} {L : List Qd}
theorem Sh.next (h : Sh w cs ds bd gi kv K L W) (hb : Below W.heap.size W W2) : Sh w cs ds bd gi kv K L W2 := ⟨h.q.next hb, owned_below h.ks hb, row_next h.li hb, h.gi⟩
theorem Sh.putB (h : Sh w cs ds bd gi kv K L W) {i : Nat} {q : Qd} (hq : L[i]? = some q) (n : Int) : Sh w cs ds bd gi kv K (L.set i (q.1, q.2.1, n, q.2.2.2)) (W.setCell ⟨gi, i * 4 + 2, none⟩ (.int .i64 n)) := by
  have hlt := h.q.lt
  have hgi := h.gi
  refine ⟨⟨h.q.low.setCell (p := ⟨gi, i * 4 + 2, none⟩) (by show w.heap.size ≤ gi; omega) _, ?_, ?_, h.q.lt⟩, owned_setOther h.ks h.li (by decide) _, ?_, h.gi⟩
  · rw [Below.heap_setCell _ _ _ _ (by show w.heap.size + 1 ≠ gi; omega)]; exact h.q.box
  · rw [Below.heap_setCell _ _ _ _ (by show bd ≠ gi; omega)]; exact h.q.dbx
  · rw [heap_setCell_same _ _ _ _ _ _ h.li, List.setIfInBounds_toArray]
    have := flat_set qd_len L i q (q.1, q.2.1, n, q.2.2.2) 2 (.int .i64 n) hq (by omega) rfl
    rw [show (qdVals L).set (i * 4 + 2) (.int .i64 n) = qdVals (L.set i (q.1, q.2.1, n, q.2.2.2)) from this]
theorem Sh.icell (h : Sh w cs ds bd gi kv K L W) {i : Nat} {q : Qd} (hq : L[i]? = some q) : W.cell? ⟨gi, i * 4 + 2, none⟩ = some (.int .i64 q.2.2.1) ∧ W.frozen? ⟨gi, i * 4 + 2, none⟩ = false := by
  refine ⟨cell_block h.li _ _ ?_, frozen_of_row W _ _ _ _ h.li⟩
  have h1 := flat_get qd_len L i q 2 (.int .i64 q.2.2.1) hq rfl
  have h2 : i * 4 + 2 < (qdVals L).length := (List.getElem?_eq_some_iff.1 h1).1
  rw [List.getElem?_toArray]
  exact h1
theorem Sh.append {wa : World} {es : Array Value} (h : Sh w cs ds bd gi kv K L W) (k : Int) {v : Value} (o1 : wa.ownsRow bd 3 1 v (K.length + 1) (intVals K ++ [.int .i64 k])) (o2 : W.grownBy wa kv.ownBlock) (he : ds.setIfInBounds 7 v = es) :
    Sh w cs es bd gi v (K ++ [k]) L (wa.setCell ⟨bd, 7, none⟩ v) := by
  have far : ∀ {x : Nat} {B : Array Value} {T : TypeId}, W.heap[x]? = some (.cells B T (0, 0)) → 3 ≠ T → wa.heap[x]? = some (.cells B T (0, 0)) := fun hx hne => by
    rw [o2.block _ (lt_block hx) (own_other h.ks hx hne)]; exact hx
  have hq : Cq w cs ds bd wa := ⟨low_grown h.q.low o2 h.q.low.size (fun g hg => by have := (own_lt h.ks hg).2; have := h.q.lt; omega), far h.q.box (by decide), far h.q.dbx (by decide), h.q.lt⟩
  refine ⟨hq.put 7 v he, ?_, hq.row 7 v (by decide) (far h.li (by decide)), h.gi⟩
  have hr : wa.ownsRow bd 3 1 v (K ++ [k]).length (intVals (K ++ [k])) := by
    rw [List.length_append, show intVals (K ++ [k]) = intVals K ++ [.int .i64 k] by simp [intVals]]; exact o1
  exact owned_setOther hr hq.dbx (by decide) v
theorem Sh.keep {wa : World} (h : Sh w cs ds bd gi kv K L W) (o2 : W.grownBy wa kv.ownBlock) {p : Addr} {v : Value} (hp : W.cell? p = some v) (hl : p.block ≤ bd) : wa.cell? p = some v := by
  refine cell_gr o2 hp fun e => ?_
  have h1 := (own_lt h.ks e.symm).2
  have h2 : p.block = bd := by omega
  rw [h2] at e
  exact own_other h.ks h.q.dbx (by decide) e
theorem Sh.seven (h : Sh w cs ds bd gi kv K L W) {wa : World} (o2 : W.grownBy wa kv.ownBlock) (v : Value) (hv : ds[7]? = some v) : wa.cell? ⟨bd, 7, none⟩ = some v ∧ wa.frozen? ⟨bd, 7, none⟩ = false := by
  have hx : wa.heap[bd]? = some (.cells ds 26 (0, 0)) := by
    rw [o2.block _ (lt_block h.q.dbx) (own_other h.ks h.q.dbx (by decide))]; exact h.q.dbx
  exact ⟨cell_block hx _ _ hv, frozen_of_row _ _ _ _ _ hx⟩
theorem Sh.at' {ao : Option Addr} {cap : Nat} (h : Sh w cs ds bd gi (.slice ao K.length cap) K L W) (hL : L.length ≤ maxLen) : IntsAt W ao K.length K ∧ QdsAt W (some ⟨gi, 0, none⟩) L.length L := by
  exact ⟨ints_owned h.ks, rowQ_at (m := []) (by simpa using h.li) hL⟩
end
end Go.Proofs.Ytjpeoejielamiaa
