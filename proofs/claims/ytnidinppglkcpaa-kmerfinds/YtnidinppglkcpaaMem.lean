/-
  Rows that a call owns: what a store, an append, a call leaves of them.
-/
import Derived.Test.YtnidinppglkcpaaProg
import Derived.WalkKit
import Derived.WalkSmall
import Derived.BigQuiet
import Derived.Deep.QuietTactic
import Derived.Lib.AppendStr
import Derived.Lib.OthersKept
import Derived.Laws.Cover1
namespace Go.Proofs.Ytnidinppglkcpaa
open Go.RowKit

theorem hid {p : Prop} (h : p) : Hid p := h
theorem ret_int {k : IntKind} {a b : Int} (h : a = b) : Ending.returned (.int k a) = .returned (.int k b) := by rw [h]
theorem ret_bool {a b : Bool} (h : a = b) : Ending.returned (.bool a) = .returned (.bool b) := by rw [h]
theorem byte_ext {a b : ByteArray} (h : a.data.toList = b.data.toList) : a = b := by
  cases a; cases b; simp at h; subst h; rfl
theorem size_toList (s : ByteArray) : s.data.toList.length = s.size := by simp
theorem mk_list (l : List UInt8) : (⟨l.toArray⟩ : ByteArray).data.toList = l := by simp
theorem mk_size (l : List UInt8) : (⟨l.toArray⟩ : ByteArray).size = l.length := by simp [ByteArray.size]
theorem getElem?_at (s : ByteArray) (k : Nat) (h : k < s.size) : s.data.toList[k]? = some s[k] := by
  rw [List.getElem?_eq_getElem (by rw [size_toList]; exact h)]
  rfl
def bs (l : List UInt8) : ByteArray := ⟨l.toArray⟩
theorem bs_list (l : List UInt8) : (bs l).data.toList = l := by simp [bs]
theorem bs_size (l : List UInt8) : (bs l).size = l.length := by simp [bs, ByteArray.size]
theorem bs_of (s : ByteArray) : bs s.data.toList = s := byte_ext (by rw [bs_list])
theorem bs_toList (l : List UInt8) : (bs l).toList = l := by rw [ByteArray.toList_eq, bs_list]
def byteVals (l : List UInt8) : List Value := l.map fun b => .int .u8 (b.toNat : Int)
theorem strCells_eq (s : ByteArray) : Lib.strCells s = byteVals s.data.toList := rfl
theorem byteVals_length (l : List UInt8) : (byteVals l).length = l.length := by simp [byteVals]
theorem byteVals_append (a b : List UInt8) : byteVals (a ++ b) = byteVals a ++ byteVals b := by simp [byteVals]
theorem owned_shape {w : World} {base : Nat} {e : TypeId} {size : Nat} {v : Value} {n : Nat} {xs : List Value} (h : w.ownsRow base e size v n xs) : ∃ ao cap, v = .slice ao n cap := by
  rcases h.2 with ⟨rfl, rfl⟩ | ⟨g, cap, _, rfl, _⟩
  · exact ⟨none, 0, rfl⟩
  · exact ⟨some ⟨g, 0, none⟩, cap, rfl⟩
theorem lt_block {w : World} {g : Nat} {o : Obj} (h : w.heap[g]? = some o) : g < w.heap.size := (Array.getElem?_eq_some_iff.1 h).1
/-- A row stays owned where its block stays as it is. -/
theorem owned_of_block {w w' : World} {base : Nat} {e : TypeId} {size : Nat} {v : Value} {n : Nat} {xs : List Value} (h : w.ownsRow base e size v n xs)
    (hk : ∀ g cur, v.ownBlock = some g → w.heap[g]? = some (.cells cur e (0, 0)) → w'.heap[g]? = w.heap[g]?) : w'.ownsRow base e size v n xs := by
  refine ⟨h.1, ?_⟩
  rcases h.2 with hn | ⟨g, cap, cur, hv, hb, hg, rest⟩
  · exact .inl hn
  · exact .inr ⟨g, cap, cur, hv, hb, by rw [hk g cur (by rw [hv]; rfl) hg]; exact hg, rest⟩
theorem owned_setOther {w : World} {base : Nat} {e t : TypeId} {size : Nat} {v : Value} {n : Nat} {xs : List Value} (h : w.ownsRow base e size v n xs) {b i : Nat} {cs : Array Value} {f : Nat × Nat}
    (hb : w.heap[b]? = some (.cells cs t f)) (hne : e ≠ t) (u : Value) : (w.setCell ⟨b, i, none⟩ u).ownsRow base e size v n xs :=
  owned_of_block h fun g cur _ hg => Below.heap_setCell w _ u g (fun e' => by
    have e'' : g = b := e'
    rw [e''] at hg; rw [hb] at hg; cases hg; exact hne rfl)
theorem owned_below {w w' : World} {base : Nat} {e : TypeId} {size : Nat} {v : Value} {n : Nat} {xs : List Value} (h : w.ownsRow base e size v n xs) (hb : Below w.heap.size w w') : w'.ownsRow base e size v n xs :=
  owned_of_block h fun g _ _ hg => hb.block g (lt_block hg)
theorem owned_grown {w w' : World} {base : Nat} {e t : TypeId} {size : Nat} {v : Value} {n : Nat} {xs : List Value} (h : w.ownsRow base e size v n xs) {v2 : Value} {n2 : Nat} {xs2 : List Value} {base2 size2 : Nat}
    (h2 : w.ownsRow base2 t size2 v2 n2 xs2) (hne : e ≠ t) (hg : w.grownBy w' v2.ownBlock) : w'.ownsRow base e size v n xs :=
  owned_of_block h fun g cur _ hc => hg.block g (lt_block hc) (fun e' => by
    rcases h2.2 with ⟨hv, _⟩ | ⟨g', cap', cur', hv, _, hg', _⟩
    · rw [hv] at e'; cases e'
    · rw [hv] at e'; simp [Value.ownBlock] at e'; subst e'; rw [hg'] at hc; cases hc; exact hne rfl)
theorem owned_set {w : World} {base : Nat} {e : TypeId} {size : Nat} {g n cap : Nat} {xs : List Value} (h : w.ownsRow base e size (.slice (some ⟨g, 0, none⟩) n cap) n xs) (j : Nat) (u : Value) :
    (w.setCell ⟨g, j, none⟩ u).ownsRow base e size (.slice (some ⟨g, 0, none⟩) n cap) n (xs.set j u) := by
  refine ⟨by simp [h.1], ?_⟩
  rcases h.2 with ⟨hv, _⟩ | ⟨g', cap', cur, hv, hb, hg, h1, h2, h3, h4⟩
  · cases hv
  · cases hv
    exact .inr ⟨g, cap, cur.setIfInBounds j u, rfl, hb, heap_setCell_same w g j cur e u hg, h1, h2, by simp [h3], by simp [List.take_set, h4]⟩
theorem owned_cells {w : World} {base : Nat} {e : TypeId} {size : Nat} {g n cap : Nat} {xs : List Value} (h : w.ownsRow base e size (.slice (some ⟨g, 0, none⟩) n cap) n xs) (j : Nat) (u : Value) (hj : xs[j]? = some u) :
    w.cell? ⟨g, j, none⟩ = some u ∧ w.frozen? ⟨g, j, none⟩ = false := by
  rcases h.2 with ⟨hv, _⟩ | ⟨g', cap', cur, hv, hb, hg, h1, h2, h3, h4⟩
  · cases hv
  · cases hv
    refine ⟨?_, frozen_of_row w g j cur e hg⟩
    rw [cell_of_row w g j cur e (0, 0) hg]
    rw [← h4] at hj
    have h5 : j < (cur.toList.take (n * size)).length := (List.getElem?_eq_some_iff.1 hj).1
    have h6 : j < n * size := by simp at h5; omega
    rw [List.getElem?_take_of_lt h6] at hj
    simpa using hj
theorem owned_some {w : World} {base : Nat} {v : Value} {n : Nat} {e : TypeId} {size : Nat} {xs : List Value} (h : w.ownsRow base e size v n xs) (hn : 0 < n) : ∃ g cap, v = .slice (some ⟨g, 0, none⟩) n cap ∧ base ≤ g ∧ n ≤ cap ∧ n ≤ maxLen ∧ g < w.heap.size := by
  rcases h.2 with ⟨_, h0⟩ | ⟨g, cap, cur, hv, hb, hg, h1, h2, h3, h4⟩
  · omega
  · exact ⟨g, cap, hv, hb, h1, by omega, lt_block hg⟩
theorem owned_below_base {w w' : World} {base : Nat} {e : TypeId} {size : Nat} {v : Value} {n : Nat} {xs : List Value} (h : w.ownsRow base e size v n xs) (hb : Below w.heap.size w w') : w'.ownsRow base e size v n xs := owned_below h hb
theorem owned_none {w : World} {base : Nat} {ao : Option Addr} {n cap : Nat} {e : TypeId} {size : Nat} {xs : List Value} (h : w.ownsRow base e size (.slice ao n cap) n xs) : w.ownsRow base e size (.slice ao 0 cap) 0 [] := by
  refine ⟨by simp, ?_⟩
  rcases h.2 with ⟨hv, rfl⟩ | ⟨g, cap', cur, hv, hb, hg, h1, h2, h3, h4⟩
  · cases hv; exact .inl ⟨rfl, rfl⟩
  · cases hv; exact .inr ⟨g, cap, cur, rfl, hb, hg, Nat.zero_le _, h2, h3, by simp⟩

theorem flat_get {α : Type} {f : α → List Value} {s : Nat} (h : ∀ a, (f a).length = s) : ∀ (l : List α) (i : Nat) (a : α) (j : Nat) (u : Value), l[i]? = some a → (f a)[j]? = some u → (l.flatMap f)[i * s + j]? = some u
  | [], i, a, j, u, hi, _ => by simp at hi
  | b :: r, 0, a, j, u, hi, hj => by
    simp at hi; subst hi
    have hlt : j < (f b).length := (List.getElem?_eq_some_iff.1 hj).1
    rw [List.flatMap_cons, Nat.zero_mul, Nat.zero_add, List.getElem?_append_left hlt]; exact hj
  | b :: r, i + 1, a, j, u, hi, hj => by
    have e : (i + 1) * s + j = s + (i * s + j) := by rw [Nat.add_mul, Nat.one_mul]; omega
    rw [List.flatMap_cons, List.getElem?_append_right (by rw [h b]; omega), h b, e, Nat.add_sub_cancel_left]
    exact flat_get h r i a j u (by simpa using hi) hj
theorem flat_set {α : Type} {f : α → List Value} {s : Nat} (h : ∀ a, (f a).length = s) : ∀ (l : List α) (i : Nat) (a b : α) (j : Nat) (u : Value), l[i]? = some a → j < s → (f a).set j u = f b → (l.flatMap f).set (i * s + j) u = (l.set i b).flatMap f
  | [], i, a, b, j, u, hi, _, _ => by simp at hi
  | c :: r, 0, a, b, j, u, hi, hj, he => by
    simp at hi; subst hi
    rw [List.flatMap_cons, Nat.zero_mul, Nat.zero_add, List.set_append_left _ _ (by rw [h c]; exact hj), he]; rfl
  | c :: r, i + 1, a, b, j, u, hi, hj, he => by
    have e : (i + 1) * s + j = s + (i * s + j) := by rw [Nat.add_mul, Nat.one_mul]; omega
    rw [List.flatMap_cons, List.set_append_right _ _ (by rw [h c]; omega), h c, e, Nat.add_sub_cancel_left, flat_set h r i a b j u (by simpa using hi) hj he]; rfl

theorem int_eq {k : IntKind} {a b : Int} (h : a = b) : Value.int k a = .int k b := by rw [h]
def intVals (l : List Int) : List Value := l.map (Value.int .i64)
theorem intVals_length (l : List Int) : (intVals l).length = l.length := by simp [intVals]
structure IntsAt (w : World) (ao : Option Addr) (len : Nat) (zs : List Int) : Prop where
  length : zs.length = len
  short : len ≤ maxLen
  cells : 0 < len → ∃ b off, ao = some ⟨b, off, none⟩ ∧ ∀ i, i < len → w.cell? ⟨b, off + i, none⟩ = some (.int .i64 (zs.getD i 0))
theorem IntsAt.below {w w' : World} {ao : Option Addr} {len : Nat} {zs : List Int} (h : IntsAt w ao len zs) (hb : Below w.heap.size w w') : IntsAt w' ao len zs := by
  refine ⟨h.length, h.short, fun h0 => ?_⟩
  obtain ⟨b, off, e, hc⟩ := h.cells h0
  refine ⟨b, off, e, fun i hi => ?_⟩
  have hci := hc i hi
  rw [hb.cell (p := ⟨b, off + i, none⟩) (World.block_lt_of_cell? w _ hci)]
  exact hci
theorem IntsAt.nil (w : World) (ao : Option Addr) : IntsAt w ao 0 [] := ⟨rfl, Nat.zero_le _, fun h => absurd h (by decide)⟩
theorem cell_block {w : World} {g : Nat} {cs : Array Value} {t : TypeId} {f : Nat × Nat} (h : w.heap[g]? = some (.cells cs t f)) (i : Nat) (v : Value) (hv : cs[i]? = some v) : w.cell? ⟨g, i, none⟩ = some v := by
  simp [World.cell?, h, hv]
theorem ints_new {w : World} {g : Nat} {zs : List Int} {cs : Array Value} {t : TypeId} {f : Nat × Nat} (h : w.heap[g]? = some (.cells cs t f)) (hc : cs = (zs.map (Value.int .i64)).toArray) (hs : zs.length ≤ maxLen) : IntsAt w (some ⟨g, 0, none⟩) zs.length zs := by
  refine ⟨rfl, hs, fun _ => ⟨g, 0, rfl, fun i hi => ?_⟩⟩
  rw [Nat.zero_add]
  refine cell_block h i _ ?_
  subst hc
  simp [List.getD, List.getElem?_eq_getElem hi]
theorem ints_owned {w : World} {base : Nat} {ao : Option Addr} {n cap : Nat} {zs : List Int} (h : w.ownsRow base 3 1 (.slice ao n cap) n (intVals zs)) : IntsAt w ao n zs := by
  have hl : zs.length = n := by have := h.1; rw [intVals_length] at this; omega
  rcases h.2 with ⟨hv, rfl⟩ | ⟨g, cap', cur, hv, hb, hg, h1, h2, h3, h4⟩
  · exact ⟨hl, Nat.zero_le _, fun h0 => absurd h0 (by omega)⟩
  · cases hv
    refine ⟨hl, by omega, fun _ => ⟨g, 0, rfl, fun i hi => ?_⟩⟩
    rw [Nat.zero_add]
    exact (owned_cells h i _ (by simp [intVals, List.getD, List.getElem?_eq_getElem (show i < zs.length by omega)])).1

theorem get_lt {α : Type} {l : List α} {k : Nat} (h : k < l.length) : ∃ x, l[k]? = some x := ⟨l[k], List.getElem?_eq_getElem h⟩

theorem below_two {w w1 w2 : World} (h : Below w.heap.size w w1) (h2 : Below w1.heap.size w1 w2) : Below w.heap.size w w2 := h.trans (h2.mono h.size)
theorem below_new {w : World} (o : Obj) : Below w.heap.size w (w.alloc o) := (Below.refl _ _).alloc (Nat.le_refl _) _
theorem decB {p : Prop} [Decidable p] {b : Bool} (h : p ↔ b = true) : decide p = b := by
  cases b
  · rw [decide_eq_false_iff_not, h]; simp
  · rw [decide_eq_true_iff, h]

end Go.Proofs.Ytnidinppglkcpaa
