/-
  What the laws of a pass ask.
-/
import Derived.Test.YtolehoibpnenlaaPsO
import Derived.Test.YtolehoibpnenlaaPsQ
namespace Go.Proofs.Ytolehoibpnenlaa
open Go.RowKit Go.Deep Go.Maps

/-- A recurrence and an error. -/
def UPost (Y : Rc) (er : Int) (w : World) (e : Ending) (w' : World) : Prop := ∃ da dc sa sc ta tc, e = .returned (.tuple #[.agg (rcCells Y da Y.defs.length dc sa Y.subst.length sc ta Y.states.length tc), .int .i64 er]) ∧ Below w.heap.size w w' ∧ RcO w' w.heap.size Y da dc sa sc ta tc
def okX (ok : Bool) (X : Rc) : Rc := if ok then X else zeroX
def okE (ok : Bool) : Int := if ok then 0 else 120
theorem zero_rcO (w : World) (b : Nat) : RcO w b zeroX none 0 none 0 none 0 := ⟨none_row _ _ _ _, none_row _ _ _ _, ⟨[], none_row _ _ _ _, rfl, fun i r s hi => by simp at hi⟩⟩
theorem pass_u {ok : Bool} {X : Rc} {w : World} {e : Ending} {w' : World} (h : PassPost ok X w e w') : UPost (okX ok X) (okE ok) w e w' := by
  unfold PassPost at h
  cases ok with
  | true => simp only [if_true] at h; exact h
  | false =>
    simp only [Bool.false_eq_true, if_false] at h
    exact ⟨none, 0, none, 0, none, 0, h.1, h.2, zero_rcO _ _⟩
theorem zero_fit : Fit zeroX := ⟨fun d hd => by simp [zeroX] at hd, by simp [zeroX], by simp [zeroX], by simp [zeroX]⟩
theorem ok_fit {ok : Bool} {X : Rc} (h : ok = true → Fit X) : Fit (okX ok X) := by
  cases ok with
  | true => exact h rfl
  | false => exact zero_fit
theorem clamp_fit {x : Rc} (h : rightR x = true) (hf : ∀ d ∈ x.defs, InR d.num) : Fit (clampB x) := by
  obtain ⟨e1, e2, e3⟩ := clamp_defs x
  have h1 := (right_defs h).1
  have h2 := (right_subst h).1
  have h3 := (right_states h).1
  exact ⟨by rw [e1]; exact hf, by rw [e1]; omega, by rw [e2]; omega, by rw [e3]; omega⟩
theorem fold_fit {x : Rc} (h : rightR x = true) (_ : ∀ d ∈ x.defs, InR d.num) : Fit (foldB x (valsB x.defs).1) := by
  have hr := (fold_right h rfl).1
  have h1 := (right_defs hr).1
  have h2 := (right_subst hr).1
  have h3 := (right_states hr).1
  refine ⟨fun d hd => ?_, by omega, by omega, by omega⟩
  simp only [foldB, foldW, List.mem_map] at hd
  obtain ⟨v, hv, rfl⟩ := hd
  rw [(kept_rising x _).2, numsP] at hv
  obtain ⟨p, hp, rfl⟩ := List.mem_map.1 hv
  have h4 := (placesL_len x h).2 p hp
  have h5 := valsB_in x.defs _ (vAt_mem (vs := (valsB x.defs).1) (p := p) (by rw [(right_defs h).2]; omega))
  simp only [numD, InR]
  unfold maxV at h5
  omega
theorem RcO.keep {w w' : World} {base : Nat} {x : Rc} {da : Option Addr} {dc : Nat} {sa : Option Addr} {sc : Nat} {ta : Option Addr} {tc : Nat} (h : RcO w base x da dc sa sc ta tc) (hk : ∀ k, base ≤ k → k < w.heap.size → w'.heap[k]? = w.heap[k]?) : RcO w' base x da dc sa sc ta tc := by
  have key : ∀ {e : TypeId} {size : Nat} {v : Value} {n : Nat} {xs : List Value}, w.ownsRow base e size v n xs → w'.ownsRow base e size v n xs := fun ho => owned_of_block ho fun g cur hg hc => hk g (owned_from' ho g hg).1 (lt_block hc)
  obtain ⟨sl, h1, h2⟩ := h.states.rows
  exact ⟨key h.defs, key h.subst, ⟨sl, key h1, h2.1, fun i r s hi hs => ⟨(h2.2 i r s hi hs).1, (h2.2 i r s hi hs).2.1, (h2.2 i r s hi hs).2.2.1, key (h2.2 i r s hi hs).2.2.2⟩⟩⟩
end Go.Proofs.Ytolehoibpnenlaa
