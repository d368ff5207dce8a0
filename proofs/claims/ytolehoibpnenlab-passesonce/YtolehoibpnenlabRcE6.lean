/-
  The document's Right of a recurrence.
-/
import Derived.Test.YtolehoibpnenlabRcE1
import Derived.Test.YtolehoibpnenlabRcE2
import Derived.Test.YtolehoibpnenlabRcE3
import Derived.Test.YtolehoibpnenlabRcE4
import Derived.Test.YtolehoibpnenlabRcE5
namespace Go.Proofs.Ytolehoibpnenlab
open Go.RowKit Go.Deep Go.Maps
theorem refright_calls (x : Rc) (da : Option Addr) (dn dc : Nat) (sa : Option Addr) (sn sc : Nat) (ta : Option Addr) (tn tc : Nat) (w : World) (h : RcAt w x da dn sa sn ta tn) :
    Calls Try.prog 5 #[.agg (rcCells x da dn dc sa sn sc ta tn tc)] w fun e w' => e = .returned (.bool (rightR x)) ∧ Below w.heap.size w w' := by
  have e1 := h.defs.length
  have e2 := h.subst.length
  have e3 := h.states.length
  have hI := rightR_iff x
  rw [e1, e2, e3] at hI
  have hNo : ((rightR x = true) → False) → rightR x = false := fun hn => by
    cases hr : rightR x
    · rfl
    · exact absurd hr hn
  by_cases f0 : (valsB x.defs).2 ≠ 0
  · rw [hNo (fun hr => by have hq := hI.1 hr; exact f0 hq.1)]
    exact rb_0 x da dn dc sa sn sc ta tn tc w h  f0
  replace f0 : (valsB x.defs).2 = 0 := Decidable.of_not_not f0
  by_cases f1 : x.letters < 2
  · rw [hNo (fun hr => by have hq := hI.1 hr; obtain ⟨h1, h2, h3, h4, h5, h6, h7, h8, h9, h10, h11, h12, h13⟩ := hq; omega)]
    exact rb_1 x da dn dc sa sn sc ta tn tc w h  f0 f1
  by_cases f2 : 20 < x.letters
  · rw [hNo (fun hr => by have hq := hI.1 hr; obtain ⟨h1, h2, h3, h4, h5, h6, h7, h8, h9, h10, h11, h12, h13⟩ := hq; omega)]
    exact rb_2 x da dn dc sa sn sc ta tn tc w h  f0 f1 f2
  by_cases f3 : (sn : Int) ≠ x.letters * x.letters
  · rw [hNo (fun hr => by have hq := hI.1 hr; exact f3 hq.2.2.1)]
    exact rb_3 x da dn dc sa sn sc ta tn tc w h  f0 f1 f2 f3
  replace f3 : (sn : Int) = x.letters * x.letters := Decidable.of_not_not f3
  by_cases f4 : x.beg < 1
  · rw [hNo (fun hr => by have hq := hI.1 hr; obtain ⟨h1, h2, h3, h4, h5, h6, h7, h8, h9, h10, h11, h12, h13⟩ := hq; omega)]
    exact rb_4 x da dn dc sa sn sc ta tn tc w h  f0 f1 f2 f3 f4
  by_cases f5 : 3 < x.beg
  · rw [hNo (fun hr => by have hq := hI.1 hr; obtain ⟨h1, h2, h3, h4, h5, h6, h7, h8, h9, h10, h11, h12, h13⟩ := hq; omega)]
    exact rb_5 x da dn dc sa sn sc ta tn tc w h  f0 f1 f2 f3 f4 f5
  by_cases f6 : x.fin < 1
  · rw [hNo (fun hr => by have hq := hI.1 hr; obtain ⟨h1, h2, h3, h4, h5, h6, h7, h8, h9, h10, h11, h12, h13⟩ := hq; omega)]
    exact rb_6 x da dn dc sa sn sc ta tn tc w h  f0 f1 f2 f3 f4 f5 f6
  by_cases f7 : 3 < x.fin
  · rw [hNo (fun hr => by have hq := hI.1 hr; obtain ⟨h1, h2, h3, h4, h5, h6, h7, h8, h9, h10, h11, h12, h13⟩ := hq; omega)]
    exact rb_7 x da dn dc sa sn sc ta tn tc w h  f0 f1 f2 f3 f4 f5 f6 f7
  by_cases f8 : (9 : Int) < (tn : Int)
  · rw [hNo (fun hr => by have hq := hI.1 hr; obtain ⟨h1, h2, h3, h4, h5, h6, h7, h8, h9, h10, h11, h12, h13⟩ := hq; omega)]
    exact rb_8 x da dn dc sa sn sc ta tn tc w h  f0 f1 f2 f3 f4 f5 f6 f7 f8
  by_cases f9 : x.front < 0
  · rw [hNo (fun hr => by have hq := hI.1 hr; obtain ⟨h1, h2, h3, h4, h5, h6, h7, h8, h9, h10, h11, h12, h13⟩ := hq; omega)]
    exact rb_9 x da dn dc sa sn sc ta tn tc w h  f0 f1 f2 f3 f4 f5 f6 f7 f8 f9
  by_cases f10 : (dn : Int) ≤ x.front
  · rw [hNo (fun hr => by have hq := hI.1 hr; obtain ⟨h1, h2, h3, h4, h5, h6, h7, h8, h9, h10, h11, h12, h13⟩ := hq; omega)]
    exact rb_10 x da dn dc sa sn sc ta tn tc w h  f0 f1 f2 f3 f4 f5 f6 f7 f8 f9 f10
  by_cases f11 : x.back < 0
  · rw [hNo (fun hr => by have hq := hI.1 hr; obtain ⟨h1, h2, h3, h4, h5, h6, h7, h8, h9, h10, h11, h12, h13⟩ := hq; omega)]
    exact rb_11 x da dn dc sa sn sc ta tn tc w h  f0 f1 f2 f3 f4 f5 f6 f7 f8 f9 f10 f11
  by_cases f12 : (dn : Int) ≤ x.back
  · rw [hNo (fun hr => by have hq := hI.1 hr; obtain ⟨h1, h2, h3, h4, h5, h6, h7, h8, h9, h10, h11, h12, h13⟩ := hq; omega)]
    exact rb_12 x da dn dc sa sn sc ta tn tc w h  f0 f1 f2 f3 f4 f5 f6 f7 f8 f9 f10 f11 f12
  by_cases f13 : vAt (valsB x.defs).1 x.front < 0
  · rw [hNo (fun hr => by have hq := hI.1 hr; have := hq.2.2.2.2.2.2.2.2.1; omega)]
    exact rb_13 x da dn dc sa sn sc ta tn tc w h  f0 f1 f2 f3 f4 f5 f6 f7 f8 f9 f10 f11 f12 f13
  by_cases f14 : vAt (valsB x.defs).1 x.back < 0
  · rw [hNo (fun hr => by have hq := hI.1 hr; have := hq.2.2.2.2.2.2.2.2.2.1; omega)]
    exact rb_14 x da dn dc sa sn sc ta tn tc w h  f0 f1 f2 f3 f4 f5 f6 f7 f8 f9 f10 f11 f12 f13 f14
  by_cases f15 : x.hi < x.lo
  · rw [hNo (fun hr => by have hq := hI.1 hr; obtain ⟨h1, h2, h3, h4, h5, h6, h7, h8, h9, h10, h11, h12, h13⟩ := hq; omega)]
    exact rb_15 x da dn dc sa sn sc ta tn tc w h  f0 f1 f2 f3 f4 f5 f6 f7 f8 f9 f10 f11 f12 f13 f14 f15
  by_cases f16 : x.banded = false ∧ x.lo ≠ 0
  · rw [hNo (fun hr => by have hq := hI.1 hr; exact f16.2 (hq.2.2.2.2.2.2.2.2.2.2.1.2 f16.1).1)]
    exact rb_16 x da dn dc sa sn sc ta tn tc w h  f0 f1 f2 f3 f4 f5 f6 f7 f8 f9 f10 f11 f12 f13 f14 f15 f16
  by_cases f17 : x.banded = false ∧ x.hi ≠ 0
  · rw [hNo (fun hr => by have hq := hI.1 hr; exact f17.2 (hq.2.2.2.2.2.2.2.2.2.2.1.2 f17.1).2)]
    exact rb_17 x da dn dc sa sn sc ta tn tc w h  f0 f1 f2 f3 f4 f5 f6 f7 f8 f9 f10 f11 f12 f13 f14 f15 f16 f17
  have hR : rightR x = (placesB dn x.subst && x.states.all (stateB tn dn)) := by
    rw [Bool.eq_iff_iff, hI, Bool.and_eq_true]
    constructor
    · intro h; exact ⟨h.2.2.2.1, h.2.2.2.2.2.2.2.2.2.2.2.2⟩
    · intro h
      refine ⟨f0, ⟨by omega, by omega⟩, f3, h.1, ⟨by omega, by omega⟩, ⟨by omega, by omega⟩, ⟨by omega, by omega⟩, ⟨by omega, by omega⟩, by omega, by omega, ⟨by omega, fun hb => ⟨?_, ?_⟩⟩, by omega, h.2⟩
      · exact Decidable.of_not_not fun hn => f16 ⟨hb, hn⟩
      · exact Decidable.of_not_not fun hn => f17 ⟨hb, hn⟩
  rw [hR]
  cases hbn : x.banded
  · exact rb_main0 x da dn dc sa sn sc ta tn tc w h  f0 f1 f2 f3 f4 f5 f6 f7 f8 f9 f10 f11 f12 f13 f14 f15 f16 f17 hbn
  · exact rb_main1 x da dn dc sa sn sc ta tn tc w h  f0 f1 f2 f3 f4 f5 f6 f7 f8 f9 f10 f11 f12 f13 f14 f15 f16 f17 hbn
end Go.Proofs.Ytolehoibpnenlab
