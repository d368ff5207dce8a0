/-
  A recurrence in a box; what a pass tells.
-/
import Derived.Test.YtolehoibpnenlabPsN
namespace Go.Proofs.Ytolehoibpnenlab
open Go.RowKit Go.Deep Go.Maps

/-- What is not longer than can be. -/
structure RcB (x : Rc) : Prop where
  defs : x.defs.length ≤ 4398046511104
  subst : x.subst.length ≤ 17592186044416
  states : x.states.length ≤ 4398046511104
  edges : ∀ s ∈ x.states, s.2.length ≤ 8796093022208
theorem right_rcB {x : Rc} (h : rightR x = true) : RcB x := by
  have h1 := (right_defs h).1
  have h2 := (right_subst h).1
  have h3 := (right_states h).1
  exact ⟨by omega, by omega, by omega, fun s hs => by have := right_edges h s hs; omega⟩
/-- A recurrence and an error. -/
def UPost (Y : Rc) (er : Int) (w : World) (e : Ending) (w' : World) : Prop := ∃ da dc sa sc ta tc, e = .returned (.tuple #[.agg (rcCells Y da Y.defs.length dc sa Y.subst.length sc ta Y.states.length tc), .int .i64 er]) ∧ Below w.heap.size w w' ∧ RcO w' w.heap.size Y da dc sa sc ta tc
def okX (ok : Bool) (X : Rc) : Rc := if ok then X else zeroX
def okE (ok : Bool) : Int := if ok then 0 else 120
theorem zero_rcO (w : World) (b : Nat) : RcO w b zeroX none 0 none 0 none 0 := ⟨none_row _ _ _ _, none_row _ _ _ _, ⟨[], none_row _ _ _ _, rfl, fun i r s hi => by simp at hi⟩⟩
theorem pass_u {ok : Bool} {X : Rc} {w : World} {e : Ending} {w' : World} (h : PassPost ok X w e w') : UPost (okX ok X) (okE ok) w e w' := by
  unfold PassPost at h
  cases ok with
  | true => simp only [if_true] at h; exact h
  | false =>
    simp only [Bool.false_eq_true, if_false] at h
    exact ⟨none, 0, none, 0, none, 0, h.1, h.2, zero_rcO _ _⟩
theorem zero_fit : Fit zeroX := ⟨fun d hd => by simp [zeroX] at hd, by simp [zeroX], by simp [zeroX], by simp [zeroX]⟩
theorem ok_fit {ok : Bool} {X : Rc} (h : ok = true → Fit X) : Fit (okX ok X) := by
  cases ok with
  | true => exact h rfl
  | false => exact zero_fit
theorem clamp_fit {x : Rc} (h : rightR x = true) (hf : ∀ d ∈ x.defs, InR d.num) : Fit (clampB x) := by
  obtain ⟨e1, e2, e3⟩ := clamp_defs x
  have h1 := (right_defs h).1
  have h2 := (right_subst h).1
  have h3 := (right_states h).1
  exact ⟨by rw [e1]; exact hf, by rw [e1]; omega, by rw [e2]; omega, by rw [e3]; omega⟩
theorem fold_fit {x : Rc} (h : rightR x = true) (_ : ∀ d ∈ x.defs, InR d.num) : Fit (foldB x (valsB x.defs).1) := by
  have hr := (fold_right h rfl).1
  have h1 := (right_defs hr).1
  have h2 := (right_subst hr).1
  have h3 := (right_states hr).1
  refine ⟨fun d hd => ?_, by omega, by omega, by omega⟩
  simp only [foldB, foldW, List.mem_map] at hd
  obtain ⟨v, hv, rfl⟩ := hd
  rw [(kept_rising x _).2, numsP] at hv
  obtain ⟨p, hp, rfl⟩ := List.mem_map.1 hv
  have h4 := (placesL_len x h).2 p hp
  have h5 := valsB_in x.defs _ (vAt_mem (vs := (valsB x.defs).1) (p := p) (by rw [(right_defs h).2]; omega))
  simp only [numD, InR]
  unfold maxV at h5
  omega
/-- A recurrence in a box. -/
structure Bx (W : World) (g : Nat) (Y : Rc) (da : Option Addr) (dc : Nat) (sa : Option Addr) (sc : Nat) (ta : Option Addr) (tc : Nat) : Prop where
  box : W.heap[g]? = some (.cells (rcCells Y da Y.defs.length dc sa Y.subst.length sc ta Y.states.length tc) 26 (0, 0))
  at' : RcAt W Y da Y.defs.length sa Y.subst.length ta Y.states.length
theorem Bx.next {W W2 : World} {g : Nat} {Y : Rc} {da : Option Addr} {dc : Nat} {sa : Option Addr} {sc : Nat} {ta : Option Addr} {tc : Nat} (h : Bx W g Y da dc sa sc ta tc) (hb : Below W.heap.size W W2) : Bx W2 g Y da dc sa sc ta tc :=
  ⟨by rw [hb.block _ (lt_block h.box)]; exact h.box, h.at'.below hb⟩
theorem Bx.new {W : World} {b : Nat} {Y : Rc} {da : Option Addr} {dc : Nat} {sa : Option Addr} {sc : Nat} {ta : Option Addr} {tc : Nat} (h : RcO W b Y da dc sa sc ta tc) (hf : Fit Y) : Bx (W.alloc (.cells (rcCells Y da Y.defs.length dc sa Y.subst.length sc ta Y.states.length tc) 26)) W.heap.size Y da dc sa sc ta tc :=
  ⟨heap_alloc_new W _, (h.below ((Below.refl _ _).alloc (Nat.le_refl _) _)).at hf⟩
end Go.Proofs.Ytolehoibpnenlab
