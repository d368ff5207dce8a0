/-
  Runs in memory; rows that a call owns: what a store, an append, a call leaves of them.
-/
import Derived.Test.YtdhphipdpjhhbaaGreatDoorPlain
import Derived.Test.YtdhphipdpjhhbaaGreatDoorWords
import Derived.Test.YtdhphipdpjhhbaaGreatDoorProg
import Derived.WalkKit
import Derived.WalkSmall
import Derived.BigQuiet
import Derived.Deep.QuietTactic
import Derived.Lib.AppendStr
import Derived.Lib.OthersKept
namespace Go.Proofs.YtdhphipdpjhhbaaGreatDoor
open Go.RowKit

theorem ret_int {k : IntKind} {a b : Int} (h : a = b) : Ending.returned (.int k a) = .returned (.int k b) := by rw [h]
theorem ret_bool {a b : Bool} (h : a = b) : Ending.returned (.bool a) = .returned (.bool b) := by rw [h]
theorem getElem?_at (s : ByteArray) (k : Nat) (h : k < s.size) : s.data.toList[k]? = some s[k] := by
  rw [List.getElem?_eq_getElem (by rw [size_toList]; exact h)]
  rfl
theorem info29 : (Tryz.prog.info? 37).map (fun i => (i.zero, i.size, i.bytes)) = some (some (.agg #[.int .u8 0, .int .i64 0]), 2, 16) := by kernel_rfl

def fitI (z : Int) : Prop := -9223372036854775808 ≤ z ∧ z ≤ 9223372036854775807
def rnCells (r : Rn) : List Value := [.int .u8 (r.1.toNat : Int), .int .i64 r.2]
/-- A slice of runs that can be read in a world. -/
structure RnsAt (w : World) (ao : Option Addr) (len : Nat) (l : List Rn) : Prop where
  length : l.length = len
  short : len ≤ maxLen
  fits : ∀ r ∈ l, fitI r.2
  cells : 0 < len → ∃ b off, ao = some ⟨b, off, none⟩ ∧ ∀ i r, l[i]? = some r → w.cell? ⟨b, off + i * 2, none⟩ = some (.int .u8 (r.1.toNat : Int)) ∧ w.cell? ⟨b, off + i * 2 + 1, none⟩ = some (.int .i64 r.2)
theorem RnsAt.below {w w' : World} {ao : Option Addr} {len : Nat} {l : List Rn} (h : RnsAt w ao len l) (hb : Below w.heap.size w w') : RnsAt w' ao len l := by
  refine ⟨h.length, h.short, h.fits, fun h0 => ?_⟩
  obtain ⟨b, off, e, hc⟩ := h.cells h0
  refine ⟨b, off, e, fun i q hi => ?_⟩
  obtain ⟨h1, h2⟩ := hc i q hi
  refine ⟨?_, ?_⟩
  · rw [hb.cell (World.block_lt_of_cell? w _ h1)]; exact h1
  · rw [hb.cell (World.block_lt_of_cell? w _ h2)]; exact h2
theorem RnsAt.nil (w : World) (ao : Option Addr) : RnsAt w ao 0 [] := ⟨rfl, Nat.zero_le _, (by simp), fun h => absurd h (by decide)⟩

def byteVals (l : List UInt8) : List Value := l.map fun b => .int .u8 (b.toNat : Int)
theorem strCells_eq (s : ByteArray) : Lib.strCells s = byteVals s.data.toList := rfl
theorem byteVals_length (l : List UInt8) : (byteVals l).length = l.length := by simp [byteVals]
theorem byteVals_append (a b : List UInt8) : byteVals (a ++ b) = byteVals a ++ byteVals b := by simp [byteVals]
def rowCells (l : List Rn) : List Value := l.flatMap rnCells
theorem rowCells_length (l : List Rn) : (rowCells l).length = l.length * 2 := by
  induction l with
  | nil => rfl
  | cons q r ih => simp only [rowCells, List.flatMap_cons, List.length_append, List.length_cons] at ih ⊢; rw [ih]; simp [rnCells]; omega
theorem rowCells_snoc (l : List Rn) (q : Rn) : rowCells (l ++ [q]) = rowCells l ++ rnCells q := by simp [rowCells]
theorem rowCells_append (a b : List Rn) : rowCells (a ++ b) = rowCells a ++ rowCells b := by simp [rowCells]
theorem rowCells_get (l : List Rn) : ∀ (i : Nat) (q : Rn), l[i]? = some q → (rowCells l)[i * 2]? = some (.int .u8 (q.1.toNat : Int)) ∧ (rowCells l)[i * 2 + 1]? = some (.int .i64 q.2) := by
  induction l with
  | nil => intro i q h; simp at h
  | cons p r ih =>
    intro i q h
    cases i with
    | zero =>
      simp at h; subst h
      simp [rowCells, rnCells]
    | succ i =>
      have := ih i q (by simpa using h)
      have e : rowCells (p :: r) = rnCells p ++ rowCells r := by simp [rowCells]
      rw [e]
      have hl : (rnCells p).length = 2 := rfl
      refine ⟨?_, ?_⟩
      · rw [List.getElem?_append_right (by rw [hl]; omega), hl, show (i + 1) * 2 - 2 = i * 2 by omega]; exact this.1
      · rw [List.getElem?_append_right (by rw [hl]; omega), hl, show (i + 1) * 2 + 1 - 2 = i * 2 + 1 by omega]; exact this.2
theorem rn_oneCell (q : Rn) : ∀ u ∈ rnCells q, u.oneCell' = true := by
  intro u hu
  simp [rnCells] at hu
  rcases hu with rfl | rfl <;> rfl
theorem rowCells_set (l : List Rn) : ∀ (i : Nat) (q : Rn) (z : Int), l[i]? = some q → (rowCells l).set (i * 2 + 1) (.int .i64 z) = rowCells (l.set i (q.1, z)) := by
  induction l with
  | nil => intro i q z h; simp at h
  | cons p r ih =>
    intro i q z h
    have e : ∀ (p : Rn) r, rowCells (p :: r) = .int .u8 (p.1.toNat : Int) :: .int .i64 p.2 :: rowCells r := fun p r => by simp [rowCells, rnCells]
    cases i with
    | zero =>
      simp at h; subst h
      simp [e]
    | succ i =>
      have := ih i q z (by simpa using h)
      rw [e, show (i + 1) * 2 + 1 = (i * 2 + 1) + 1 + 1 by omega, List.set_cons_succ, List.set_cons_succ, this, List.set_cons_succ, e]
theorem owned_shape {w : World} {base : Nat} {e : TypeId} {size : Nat} {v : Value} {n : Nat} {xs : List Value} (h : w.ownsRow base e size v n xs) : ∃ ao cap, v = .slice ao n cap := by
  rcases h.2 with ⟨rfl, rfl⟩ | ⟨g, cap, _, rfl, _⟩
  · exact ⟨none, 0, rfl⟩
  · exact ⟨some ⟨g, 0, none⟩, cap, rfl⟩
theorem lt_block {w : World} {g : Nat} {o : Obj} (h : w.heap[g]? = some o) : g < w.heap.size := (Array.getElem?_eq_some_iff.1 h).1
/-- A row stays owned where its block stays as it is. -/
theorem owned_of_block {w w' : World} {base : Nat} {e : TypeId} {size : Nat} {v : Value} {n : Nat} {xs : List Value} (h : w.ownsRow base e size v n xs)
    (hk : ∀ g cur, v.ownBlock = some g → w.heap[g]? = some (.cells cur e (0, 0)) → w'.heap[g]? = w.heap[g]?) : w'.ownsRow base e size v n xs := by
  refine ⟨h.1, ?_⟩
  rcases h.2 with hn | ⟨g, cap, cur, hv, hb, hg, rest⟩
  · exact .inl hn
  · exact .inr ⟨g, cap, cur, hv, hb, by rw [hk g cur (by rw [hv]; rfl) hg]; exact hg, rest⟩
theorem owned_setOther {w : World} {base : Nat} {e t : TypeId} {size : Nat} {v : Value} {n : Nat} {xs : List Value} (h : w.ownsRow base e size v n xs) {b i : Nat} {cs : Array Value} {f : Nat × Nat}
    (hb : w.heap[b]? = some (.cells cs t f)) (hne : e ≠ t) (u : Value) : (w.setCell ⟨b, i, none⟩ u).ownsRow base e size v n xs :=
  owned_of_block h fun g cur _ hg => Below.heap_setCell w _ u g (fun e' => by
    have e'' : g = b := e'
    rw [e''] at hg; rw [hb] at hg; cases hg; exact hne rfl)
theorem owned_below {w w' : World} {base : Nat} {e : TypeId} {size : Nat} {v : Value} {n : Nat} {xs : List Value} (h : w.ownsRow base e size v n xs) (hb : Below w.heap.size w w') : w'.ownsRow base e size v n xs :=
  owned_of_block h fun g _ _ hg => hb.block g (lt_block hg)
theorem owned_grown {w w' : World} {base : Nat} {e t : TypeId} {size : Nat} {v : Value} {n : Nat} {xs : List Value} (h : w.ownsRow base e size v n xs) {v2 : Value} {n2 : Nat} {xs2 : List Value} {base2 size2 : Nat}
    (h2 : w.ownsRow base2 t size2 v2 n2 xs2) (hne : e ≠ t) (hg : w.grownBy w' v2.ownBlock) : w'.ownsRow base e size v n xs :=
  owned_of_block h fun g cur _ hc => hg.block g (lt_block hc) (fun e' => by
    rcases h2.2 with ⟨hv, _⟩ | ⟨g', cap', cur', hv, _, hg', _⟩
    · rw [hv] at e'; cases e'
    · rw [hv] at e'; simp [Value.ownBlock] at e'; subst e'; rw [hg'] at hc; cases hc; exact hne rfl)
theorem owned_set {w : World} {base : Nat} {e : TypeId} {size : Nat} {g n cap : Nat} {xs : List Value} (h : w.ownsRow base e size (.slice (some ⟨g, 0, none⟩) n cap) n xs) (j : Nat) (u : Value) :
    (w.setCell ⟨g, j, none⟩ u).ownsRow base e size (.slice (some ⟨g, 0, none⟩) n cap) n (xs.set j u) := by
  refine ⟨by simp [h.1], ?_⟩
  rcases h.2 with ⟨hv, _⟩ | ⟨g', cap', cur, hv, hb, hg, h1, h2, h3, h4⟩
  · cases hv
  · cases hv
    exact .inr ⟨g, cap, cur.setIfInBounds j u, rfl, hb, heap_setCell_same w g j cur e u hg, h1, h2, by simp [h3], by simp [List.take_set, h4]⟩
theorem owned_cells {w : World} {base : Nat} {e : TypeId} {size : Nat} {g n cap : Nat} {xs : List Value} (h : w.ownsRow base e size (.slice (some ⟨g, 0, none⟩) n cap) n xs) (j : Nat) (u : Value) (hj : xs[j]? = some u) :
    w.cell? ⟨g, j, none⟩ = some u ∧ w.frozen? ⟨g, j, none⟩ = false := by
  rcases h.2 with ⟨hv, _⟩ | ⟨g', cap', cur, hv, hb, hg, h1, h2, h3, h4⟩
  · cases hv
  · cases hv
    refine ⟨?_, frozen_of_row w g j cur e hg⟩
    rw [cell_of_row w g j cur e (0, 0) hg]
    rw [← h4] at hj
    have h5 : j < (cur.toList.take (n * size)).length := (List.getElem?_eq_some_iff.1 hj).1
    have h6 : j < n * size := by simp at h5; omega
    rw [List.getElem?_take_of_lt h6] at hj
    simpa using hj
theorem owned_rns {w : World} {base : Nat} {ao : Option Addr} {n cap : Nat} {l : List Rn} (h : w.ownsRow base 37 2 (.slice ao n cap) n (rowCells l)) (hf : ∀ r ∈ l, fitI r.2) : RnsAt w ao n l := by
  have hl : l.length = n := by have := h.1; rw [rowCells_length] at this; omega
  rcases h.2 with ⟨hv, rfl⟩ | ⟨g, cap', cur, hv, hb, hg, h1, h2, h3, h4⟩
  · exact ⟨hl, by decide, hf, fun h0 => absurd h0 (by omega)⟩
  · cases hv
    refine ⟨hl, by omega, hf, fun _ => ⟨g, 0, rfl, fun i q hi => ?_⟩⟩
    obtain ⟨r1, r2⟩ := rowCells_get l i q hi
    simp only [Nat.zero_add]
    exact ⟨(owned_cells h _ _ r1).1, (owned_cells h _ _ r2).1⟩
theorem owned_some {w : World} {base : Nat} {v : Value} {n : Nat} {e : TypeId} {size : Nat} {xs : List Value} (h : w.ownsRow base e size v n xs) (hn : 0 < n) : ∃ g cap, v = .slice (some ⟨g, 0, none⟩) n cap ∧ base ≤ g ∧ n ≤ cap ∧ n ≤ maxLen ∧ g < w.heap.size := by
  rcases h.2 with ⟨_, h0⟩ | ⟨g, cap, cur, hv, hb, hg, h1, h2, h3, h4⟩
  · omega
  · exact ⟨g, cap, hv, hb, h1, by omega, lt_block hg⟩
theorem owned_below_base {w w' : World} {base : Nat} {e : TypeId} {size : Nat} {v : Value} {n : Nat} {xs : List Value} (h : w.ownsRow base e size v n xs) (hb : Below w.heap.size w w') : w'.ownsRow base e size v n xs := owned_below h hb
theorem owned_none {w : World} {base : Nat} {ao : Option Addr} {n cap : Nat} {e : TypeId} {size : Nat} {xs : List Value} (h : w.ownsRow base e size (.slice ao n cap) n xs) : w.ownsRow base e size (.slice ao 0 cap) 0 [] := by
  refine ⟨by simp, ?_⟩
  rcases h.2 with ⟨hv, rfl⟩ | ⟨g, cap', cur, hv, hb, hg, h1, h2, h3, h4⟩
  · cases hv; exact .inl ⟨rfl, rfl⟩
  · cases hv; exact .inr ⟨g, cap, cur, rfl, hb, hg, Nat.zero_le _, h2, h3, by simp⟩

end Go.Proofs.YtdhphipdpjhhbaaGreatDoor
