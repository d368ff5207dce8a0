/-
  The document's Right of a recurrence.
-/
import Derived.Deep.RegionHeld3
import Derived.Test.YtolehoibpnenlabMm
import Derived.Test.YtolehoibpnenlabRcC
namespace Go.Proofs.Ytolehoibpnenlab
open Go.RowKit Go.Deep Go.Maps
def edgeD (e : Int × Int) (behind states defs : Int) : Bool := decide (behind < e.1) && (decide (e.1 < states) && (decide (-1 ≤ e.2) && decide (e.2 < defs)))
theorem edgeD_eq (e : Int × Int) (behind states defs : Int) (hd : 0 ≤ defs) : edgeD e behind states defs = (inI e.1 (behind + 1) (states - 1) && (decide (e.2 = -1) || inI e.2 0 (defs - 1))) := by
  rw [Bool.eq_iff_iff]
  simp only [edgeD, inI, Bool.and_eq_true, Bool.or_eq_true, decide_eq_true_eq]
  omega
set_option maxRecDepth 20000 in
set_option maxHeartbeats 1000000 in
theorem edgeD_calls (s c behind states defs : Int) (w : World) : Calls Try.prog 11 #[.agg #[.int .i64 s, .int .i64 c], .int .i64 behind, .int .i64 states, .int .i64 defs] w fun e w' => e = .returned (.bool (edgeD (s, c) behind states defs)) ∧ Below w.heap.size w w' := by
  have HB : Hid (Below w.heap.size w (w.alloc (.cells #[.int .i64 s, .int .i64 c] 42))) := (Below.refl _ _).alloc (Nat.le_refl _) _
  by_cases h1 : behind < s
  · have d1 : decide (behind < s) = true := by simpa using h1
    by_cases h2 : s < states
    · have d2 : decide (s < states) = true := by simpa using h2
      by_cases h3 : -1 ≤ c
      · have d3 : decide (-1 ≤ c) = true := by simpa using h3
        go_enter Try.func11, Try.ntmps11
        go_wp2
        go_ret
        exact ⟨ret_bool (by simp [edgeD, h1, h2, h3]), HB.out⟩
      · have d3 : decide (-1 ≤ c) = false := by simpa using h3
        go_enter Try.func11, Try.ntmps11
        go_wp2
        go_ret
        exact ⟨ret_bool (by simp [edgeD]; omega), HB.out⟩
    · have d2 : decide (s < states) = false := by simpa using h2
      go_enter Try.func11, Try.ntmps11
      go_wp2
      go_ret
      exact ⟨ret_bool (by simp [edgeD]; omega), HB.out⟩
  · have d1 : decide (behind < s) = false := by simpa using h1
    go_enter Try.func11, Try.ntmps11
    go_wp2
    go_ret
    exact ⟨ret_bool (by simp [edgeD]; omega), HB.out⟩
theorem rightR_iff (x : Rc) : rightR x = true ↔ ((valsB x.defs).2 = 0 ∧ (2 ≤ x.letters ∧ x.letters ≤ 20) ∧ (x.subst.length : Int) = x.letters * x.letters ∧ placesB x.defs.length x.subst = true ∧ (1 ≤ x.beg ∧ x.beg ≤ 3) ∧ (1 ≤ x.fin ∧ x.fin ≤ 3) ∧ (0 ≤ x.front ∧ x.front < x.defs.length) ∧ (0 ≤ x.back ∧ x.back < x.defs.length) ∧ 0 ≤ vAt (valsB x.defs).1 x.front ∧ 0 ≤ vAt (valsB x.defs).1 x.back ∧ (x.lo ≤ x.hi ∧ (x.banded = false → x.lo = 0 ∧ x.hi = 0)) ∧ x.states.length ≤ 9 ∧ x.states.all (stateB x.states.length x.defs.length) = true) := by
  unfold rightR substR endsR statesR
  simp only [Bool.and_eq_true, decide_eq_true_eq, inI_iff]
  constructor
  · rintro ⟨h1, ⟨h2, h3, h4⟩, ⟨h5, h6, h7, h8, h9⟩, h10, h11, h12⟩
    have hl := (valsB_len x.defs h1).1
    rw [hl] at h7
    simp only [placesB, List.all_cons, List.all_nil, Bool.and_true, Bool.and_eq_true, inI_iff] at h7
    refine ⟨h1, h2, h3, h4, h5, h6, by omega, by omega, h8, h9, ?_, h11, h12⟩
    unfold bandR at h10
    cases hb : x.banded
    · rw [hb] at h10
      simp at h10
      exact ⟨by omega, fun _ => h10⟩
    · rw [hb] at h10
      simp at h10
      exact ⟨h10, fun e => by cases e⟩
  · rintro ⟨h1, h2, h3, h4, h5, h6, h7, h7b, h8, h9, h10, h11, h12⟩
    have hl := (valsB_len x.defs h1).1
    refine ⟨h1, ⟨h2, h3, h4⟩, ⟨h5, h6, ?_, h8, h9⟩, ?_, h11, h12⟩
    · rw [hl]
      simp only [placesB, List.all_cons, List.all_nil, Bool.and_true, Bool.and_eq_true, inI_iff]
      omega
    · unfold bandR
      cases hb : x.banded
      · have := h10.2 hb
        simp [this]
      · simp [h10.1]
structure JR (w : World) (cs : Array Value) (wo : World) (es : Array Value) (W : World) : Prop where
  rb : Rb w cs W
  low : Below wo.heap.size wo W
  st : W.heap[wo.heap.size]? = some (.cells es 39 (0, 0))
theorem JR.next {w : World} {cs : Array Value} {wo : World} {es : Array Value} {W W' : World} (h : JR w cs wo es W) (hb : Below W.heap.size W W') : JR w cs wo es W' :=
  ⟨h.rb.next hb, h.low.trans (hb.mono h.low.size), by rw [hb.block _ (lt_block h.st)]; exact h.st⟩
end Go.Proofs.Ytolehoibpnenlab
