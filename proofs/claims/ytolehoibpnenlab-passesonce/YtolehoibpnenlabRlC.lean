/-
  The states of a scheme's recurrence.
-/
import Derived.Test.YtolehoibpnenlabRlA
import Derived.Deep.DeepCutAuto
import Derived.Deep.RegionHeld3
namespace Go.Proofs.Ytolehoibpnenlab
open Go.RowKit Go.Deep Go.Maps
/-- A state as its cells. -/
abbrev Sr := Int × Option Addr × Nat × Nat
def srCells (s : Sr) : List Value := [.int .i64 s.1, .slice s.2.1 s.2.2.1 s.2.2.2]
def srRow (l : List Sr) : List Value := l.flatMap srCells
/-- The edges of each state lie in a row of their own. -/
def Own2 (w : World) (base : Nat) (sl : List Sr) (l : List St) : Prop := sl.length = l.length ∧ ∀ (i : Nat) (r : Sr) (s : St), sl[i]? = some r → l[i]? = some s → r.1 = s.1 ∧ r.2.2.1 = s.2.length ∧ s.2.length ≤ 100 ∧ w.ownsRow base 42 2 (.slice r.2.1 r.2.2.1 r.2.2.2) r.2.2.1 (pcRow s.2)
theorem Own2.below {w w' : World} {base : Nat} {sl : List Sr} {l : List St} (h : Own2 w base sl l) (hb : Below w.heap.size w w') : Own2 w' base sl l :=
  ⟨h.1, fun i r s hi hs => ⟨(h.2 i r s hi hs).1, (h.2 i r s hi hs).2.1, (h.2 i r s hi hs).2.2.1, owned_below (h.2 i r s hi hs).2.2.2 hb⟩⟩
theorem Own2.nil (w : World) (base : Nat) : Own2 w base [] [] := ⟨rfl, fun i r s hi => by simp at hi⟩
theorem Own2.grown {w w' : World} {base : Nat} {sl : List Sr} {l : List St} (h : Own2 w base sl l) {v : Value} {n : Nat} {xs : List Value} (ho : w.ownsRow base 39 2 v n xs) (hg : w.grownBy w' v.ownBlock) : Own2 w' base sl l :=
  ⟨h.1, fun i r s hi hs => ⟨(h.2 i r s hi hs).1, (h.2 i r s hi hs).2.1, (h.2 i r s hi hs).2.2.1, owned_grown (h.2 i r s hi hs).2.2.2 ho (by decide) hg⟩⟩
/-- The states as a list of rows. -/
structure StsOwn (w : World) (base : Nat) (v : Value) (l : List St) : Prop where
  rows : ∃ sl, w.ownsRow base 39 2 v l.length (srRow sl) ∧ Own2 w base sl l
theorem StsOwn.below {w w' : World} {base : Nat} {v : Value} {l : List St} (h : StsOwn w base v l) (hb : Below w.heap.size w w') : StsOwn w' base v l := by
  obtain ⟨sl, h1, h2⟩ := h.rows
  exact ⟨sl, owned_below h1 hb, h2.below hb⟩
theorem StsOwn.at {w : World} {base : Nat} {ao : Option Addr} {n c : Nat} {l : List St} (h : StsOwn w base (.slice ao n c) l) (hn : n = l.length) (hs : n ≤ 1000) : StsAt w ao n l := by
  subst hn
  obtain ⟨sl, h1, h2⟩ := h.rows
  refine ⟨rfl, by unfold maxLen; omega, fun h0 => ?_⟩
  obtain ⟨g, cap, e, _⟩ := owned_some h1 h0
  cases e
  refine ⟨g, 0, rfl, fun i s hi => ?_⟩
  have hil : i < sl.length := by rw [h2.1]; exact (List.getElem?_eq_some_iff.1 hi).1
  have hsl : sl[i]? = some (sl[i]'hil) := List.getElem?_eq_getElem _
  obtain ⟨q1, q2, q2b, q3⟩ := h2.2 i _ s hsl hi
  have cc : ∀ (j : Nat) (u : Value), (srCells (sl[i]'hil))[j]? = some u → w.cell? ⟨g, 0 + (i * 2 + j), none⟩ = some u := fun j u hu => by
    rw [Nat.zero_add]
    exact (owned_cells h1 _ _ (flat_get (s := 2) (fun _ => rfl) sl i _ j u hsl hu)).1
  have c0 := cc 0 _ rfl
  rw [q1] at c0
  refine ⟨(sl[i]'hil).2.1, (sl[i]'hil).2.2.1, (sl[i]'hil).2.2.2, c0, cc 1 _ rfl, ?_⟩
  rw [q2] at q3 ⊢
  obtain ⟨ao, cap', e, hp⟩ := pcs_own q3 (by unfold maxLen; omega)
  cases e
  exact hp
