/-
  A recurrence in work: its block and its rows.
-/
import Derived.Test.YtolehoibpnenlabPsA
namespace Go.Proofs.Ytolehoibpnenlab
open Go.RowKit Go.Deep Go.Maps

/-- Where it lies. -/
structure Ly where
  da : Option Addr
  dc : Nat
  sa : Option Addr
  sc : Nat
  ta : Option Addr
  tc : Nat
  na : Option Addr
  nc : Nat
  sl : List Sr
def wkCells (x : Rc) (m : Nat) (y : Ly) : Array Value :=
  #[.int .i64 x.letters, .slice y.da x.defs.length y.dc, .slice y.sa x.subst.length y.sc, .int .i64 x.beg, .int .i64 x.fin, .int .i64 x.front, .int .i64 x.back, .bool x.banded, .int .i64 x.lo, .int .i64 x.hi, .slice y.ta x.states.length y.tc, .slice y.na m y.nc]
/-- No two rows of edges share a block. -/
def Dj (sl : List Sr) : Prop := ∀ (i j : Nat) (r r' : Sr) (a : Addr), i ≠ j → sl[i]? = some r → sl[j]? = some r' → r.2.1 = some a → r'.2.1 ≠ some a
structure WkAt (w : World) (base wb : Nat) (x : Rc) (vs : List Int) (y : Ly) : Prop where
  fro : base ≤ wb
  box : w.heap[wb]? = some (.cells (wkCells x vs.length y) 54 (0, 0))
  defs : w.ownsRow base 34 4 (.slice y.da x.defs.length y.dc) x.defs.length (dfRow x.defs)
  subst : w.ownsRow base 3 1 (.slice y.sa x.subst.length y.sc) x.subst.length (itRow x.subst)
  nums : w.ownsRow base 3 1 (.slice y.na vs.length y.nc) vs.length (itRow vs)
  states : w.ownsRow base 39 2 (.slice y.ta x.states.length y.tc) x.states.length (srRow y.sl)
  rows : Own2 w base y.sl x.states
  apart : Dj y.sl
  two : ∀ a, y.sa = some a → y.na ≠ some a
theorem WkAt.below {w w' : World} {base wb : Nat} {x : Rc} {vs : List Int} {y : Ly} (h : WkAt w base wb x vs y) (hb : Below w.heap.size w w') : WkAt w' base wb x vs y :=
  ⟨h.fro, by rw [hb.block _ (lt_block h.box)]; exact h.box, owned_below h.defs hb, owned_below h.subst hb, owned_below h.nums hb, owned_below h.states hb, h.rows.below hb, h.apart, h.two⟩
/-- A row stays where another block is written. -/
theorem own_apart {w w' : World} {base : Nat} {e : TypeId} {size : Nat} {v : Value} {n : Nat} {xs : List Value} {g : Nat} (h : w.ownsRow base e size v n xs) (hg : w.grownBy w' (some g)) (hne : v.ownBlock ≠ some g) : w'.ownsRow base e size v n xs :=
  owned_of_block h fun k _ hk hc => hg.block k (lt_block hc) (fun e => hne (hk.trans e))
theorem own_kind {w w' : World} {base : Nat} {e t : TypeId} {size : Nat} {v : Value} {n : Nat} {xs : List Value} {g : Nat} {cs : Array Value} (h : w.ownsRow base e size v n xs) (hb : w.heap[g]? = some (.cells cs t (0, 0))) (hne : e ≠ t) (hg : w.grownBy w' (some g)) : w'.ownsRow base e size v n xs :=
  owned_of_block h fun k _ _ hc => hg.block k (lt_block hc) (fun e' => by cases e'; rw [hb] at hc; cases hc; exact hne rfl)
theorem grown_set (w : World) (g i : Nat) (v : Value) : w.grownBy (w.setCell ⟨g, i, none⟩ v) (some g) :=
  ⟨rfl, rfl, rfl, by simp [World.setCell], fun k _ hk => Below.heap_setCell _ _ _ _ (fun e => hk (by rw [e]))⟩
theorem grown_trans {w w' w'' : World} {r : Option Nat} (h : w.grownBy w' r) (k : w'.grownBy w'' r) : w.grownBy w'' r :=
  ⟨k.os.trans h.os, k.tape.trans h.tape, k.output.trans h.output, Nat.le_trans h.size k.size, fun i hi hr => (k.block i (Nat.lt_of_lt_of_le hi h.size) hr).trans (h.block i hi hr)⟩
theorem grown_drew {w w' : World} {r : Option Nat} (h : w.grownBy w' r) : w.grownBy w'.drew r := ⟨h.os, h.tape, h.output, h.size, h.block⟩
theorem grown_below {w w' : World} {r : Option Nat} (h : Below w.heap.size w w') : w.grownBy w' r := ⟨h.os, h.tape, h.output, h.size, fun k hk _ => h.block k hk⟩
/-- A cell is written in a block. -/
theorem heap_set {w : World} {g i : Nat} {cs : Array Value} {t : TypeId} (v : Value) (h : w.heap[g]? = some (.cells cs t (0, 0))) : (w.setCell ⟨g, i, none⟩ v).heap[g]? = some (.cells (cs.setIfInBounds i v) t (0, 0)) := by
  simp [World.setCell, Array.getElem?_modify, h]
theorem own_set {w : World} {base : Nat} {e : TypeId} {size g n cap : Nat} {xs : List Value} (h : w.ownsRow base e size (.slice (some ⟨g, 0, none⟩) n cap) n xs) (j : Nat) (v : Value) :
    (w.setCell ⟨g, j, none⟩ v).ownsRow base e size (.slice (some ⟨g, 0, none⟩) n cap) n (xs.set j v) := by
  refine ⟨by rw [List.length_set]; exact h.1, ?_⟩
  rcases h.2 with ⟨hv, _⟩ | ⟨g', cap', cur, hv, hb, hg, h1, h2, h3, h4⟩
  · cases hv
  · cases hv
    refine .inr ⟨g, cap, cur.setIfInBounds j v, rfl, hb, heap_set v hg, h1, h2, by simpa using h3, ?_⟩
    rw [Array.toList_setIfInBounds, ← h4]

    rw [List.take_set]
/-- What a store into the box leaves. -/
theorem WkAt.store {w w' : World} {base wb : Nat} {x x' : Rc} {vs : List Int} {y : Ly} (h : WkAt w base wb x vs y) (hg : w.grownBy w' (some wb)) (hb : w'.heap[wb]? = some (.cells (wkCells x' vs.length y) 54 (0, 0)))
    (e1 : x'.defs = x.defs) (e2 : x'.subst = x.subst) (e3 : x'.states = x.states) : WkAt w' base wb x' vs y := by
  refine ⟨h.fro, hb, ?_, ?_, own_kind h.nums h.box (by decide) hg, ?_, ?_, h.apart, h.two⟩
  · rw [e1]; exact own_kind h.defs h.box (by decide) hg
  · rw [e2]; exact own_kind h.subst h.box (by decide) hg
  · rw [e3]; exact own_kind h.states h.box (by decide) hg
  · rw [e3]; exact ⟨h.rows.1, fun i r s hi hs => ⟨(h.rows.2 i r s hi hs).1, (h.rows.2 i r s hi hs).2.1, (h.rows.2 i r s hi hs).2.2.1, own_kind (h.rows.2 i r s hi hs).2.2.2 h.box (by decide) hg⟩⟩
theorem WkAt.cell {w : World} {base wb : Nat} {x : Rc} {vs : List Int} {y : Ly} (h : WkAt w base wb x vs y) (i : Nat) (u : Value) (hi : (wkCells x vs.length y)[i]? = some u) : w.cell? ⟨wb, i, none⟩ = some u := blk h.box hi
theorem WkAt.froz {w : World} {base wb : Nat} {x : Rc} {vs : List Int} {y : Ly} (h : WkAt w base wb x vs y) (i : Nat) : w.frozen? ⟨wb, i, none⟩ = false := frozen_of_row w wb i _ _ h.box
/-- Few edges in a right recurrence. -/
theorem edges_few {ns nd : Int} : ∀ {l : List (Int × Int)} {least : Int}, edgesB ns nd least l = true → (l.length : Int) ≤ ns - least ∨ l = []
  | [], _, _ => .inr rfl
  | e :: r, least, h => by
    simp only [edgesB, Bool.and_eq_true, inI_iff] at h
    rcases edges_few h.2 with h1 | h1
    · left; simp only [List.length_cons]; omega
    · subst h1; left; simp only [List.length_cons, List.length_nil]; omega
theorem right_states {x : Rc} (h : rightR x = true) : x.states.length ≤ 9 ∧ ∀ s ∈ x.states, stateB x.states.length x.defs.length s = true := by
  simp only [rightR, statesR, Bool.and_eq_true, decide_eq_true_eq, List.all_eq_true] at h
  exact ⟨h.2.2.2.2.1, h.2.2.2.2.2⟩
theorem right_edges {x : Rc} (h : rightR x = true) : ∀ s ∈ x.states, s.2.length ≤ 100 := fun s hs => by
  obtain ⟨h1, h2⟩ := right_states h
  have h3 := h2 s hs
  simp only [stateB, Bool.and_eq_true] at h3
  rcases edges_few h3.2 with h4 | h4
  · omega
  · rw [h4]; simp
theorem right_vals {x : Rc} (h : rightR x = true) : (valsB x.defs).2 = 0 := by
  simp only [rightR, Bool.and_eq_true, decide_eq_true_eq] at h
  exact h.1
theorem right_defs {x : Rc} (h : rightR x = true) : x.defs.length ≤ 5004 ∧ (valsB x.defs).1.length = x.defs.length := ⟨(valsB_len _ (right_vals h)).2, (valsB_len _ (right_vals h)).1⟩
theorem right_subst {x : Rc} (h : rightR x = true) : x.subst.length ≤ 400 ∧ 4 ≤ x.subst.length ∧ ∀ p ∈ x.subst, 0 ≤ p ∧ p < x.defs.length := by
  simp only [rightR, substR, placesB, Bool.and_eq_true, decide_eq_true_eq, inI_iff, List.all_eq_true] at h
  obtain ⟨_, ⟨h1, h2, h3⟩, _⟩ := h
  have a : x.letters * x.letters ≤ 20 * 20 := Int.mul_le_mul h1.2 h1.2 (by omega) (by omega)
  have b : 2 * 2 ≤ x.letters * x.letters := Int.mul_le_mul h1.1 h1.1 (by omega) (by omega)
  exact ⟨by omega, by omega, fun p hp => by have := h3 p hp; omega⟩
theorem right_ends {x : Rc} (h : rightR x = true) : (0 ≤ x.front ∧ x.front < x.defs.length) ∧ 0 ≤ x.back ∧ x.back < x.defs.length := by
  have hl := (right_defs h).2
  simp only [rightR, endsR, placesB, Bool.and_eq_true, decide_eq_true_eq, inI_iff, List.all_eq_true] at h
  have h1 := h.2.2.1.2.2.1
  rw [hl] at h1
  have q1 := h1 x.front (by simp)
  have q2 := h1 x.back (by simp)
  omega
theorem right_costs {x : Rc} (h : rightR x = true) : ∀ s ∈ x.states, ∀ e ∈ s.2, -1 ≤ e.2 ∧ e.2 < x.defs.length ∧ -1 ≤ e.1 ∧ e.1 < x.states.length := fun s hs => by
  obtain ⟨h1, h2⟩ := right_states h
  have h3 := h2 s hs
  simp only [stateB, Bool.and_eq_true] at h3
  have key : ∀ (l : List (Int × Int)) (least : Int), -1 ≤ least → edgesB x.states.length x.defs.length least l = true → ∀ e ∈ l, -1 ≤ e.2 ∧ e.2 < x.defs.length ∧ -1 ≤ e.1 ∧ e.1 < x.states.length := by
    intro l
    induction l with
    | nil => intro _ _ _ e he; simp at he
    | cons a r ih =>
      intro least hl h e he
      simp only [edgesB, Bool.and_eq_true, Bool.or_eq_true, decide_eq_true_eq, inI_iff] at h
      rcases List.mem_cons.1 he with rfl | he
      · rcases h.1.2 with q | q <;> omega
      · exact ih (a.1 + 1) (by omega) h.2 e he
  exact key _ _ (by omega) h3.2
end Go.Proofs.Ytolehoibpnenlab
