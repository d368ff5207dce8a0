/-
  Definitions and their numbers, in plain lists.
-/
import Derived.Test.YtolehoibpnenlabCkP
namespace Go.Proofs.Ytolehoibpnenlab
open Go.Deep
def aheadB (a p : Int) : Bool := decide (0 ≤ a ∧ a < p)
/-- Whether a definition may stand at a place. -/
def defB (d : Df) (p : Int) : Bool :=
  if d.op = 1 then decide (d.a = 0 ∧ d.b = 0)
  else if d.op = 2 then decide (d.num = 0) && (aheadB d.a p && decide (d.b = 0))
  else if 3 ≤ d.op ∧ d.op ≤ 7 then decide (d.num = 0) && (aheadB d.a p && aheadB d.b p)
  else false
def valF : List Df → List Int → Except Int (List Int)
  | [], vs => .ok vs
  | d :: r, vs => if defB d vs.length = false then .error 1 else if inB maxV (rawB vs d) = false then .error 93 else valF r (vs ++ [rawB vs d])
def valsB (l : List Df) : List Int × Int :=
  if 5004 < l.length then ([], 2)
  else match valF l [] with
    | .error e => ([], e)
    | .ok vs => (vs, 0)
def valE : Except Int (List Int) → List Int × Int
  | .error e => ([], e)
  | .ok vs => (vs, 0)
theorem valsB_eq {l : List Df} (h : ¬ 5004 < l.length) : valsB l = valE (valF l []) := by
  unfold valsB
  rw [if_neg h]
  cases valF l [] <;> rfl
theorem valF_bad {d : Df} {r : List Df} {vs : List Int} (h : defB d vs.length = false) : valF (d :: r) vs = .error 1 := by simp [valF, h]
theorem valF_far {d : Df} {r : List Df} {vs : List Int} (h : defB d vs.length = true) (h2 : inB maxV (rawB vs d) = false) : valF (d :: r) vs = .error 93 := by simp [valF, h, h2]
theorem valF_ok {d : Df} {r : List Df} {vs : List Int} (h : defB d vs.length = true) (h2 : inB maxV (rawB vs d) = true) : valF (d :: r) vs = valF r (vs ++ [rawB vs d]) := by simp [valF, h, h2]
theorem valF_len : ∀ {l : List Df} {vs us : List Int}, valF l vs = .ok us → us.length = vs.length + l.length
  | [], vs, us, h => by cases h; simp
  | d :: r, vs, us, h => by
    simp only [valF] at h
    split at h
    · cases h
    · split at h
      · cases h
      · have := valF_len h
        simp at this ⊢; omega
theorem valF_in : ∀ {l : List Df} {vs us : List Int}, (∀ v ∈ vs, -maxV ≤ v ∧ v ≤ maxV) → valF l vs = .ok us → ∀ v ∈ us, -maxV ≤ v ∧ v ≤ maxV
  | [], vs, us, hv, h => by cases h; exact hv
  | d :: r, vs, us, hv, h => by
    simp only [valF] at h
    split at h
    · cases h
    · split at h
      · cases h
      · rename_i hb
        refine valF_in (fun v hm => ?_) h
        rcases List.mem_append.1 hm with h1 | h1
        · exact hv v h1
        · rw [List.mem_singleton.1 h1]
          have : inB maxV (rawB vs d) = true := by simpa using hb
          exact (inB_iff _ _).1 this
theorem valF_err : ∀ {l : List Df} {vs : List Int} {e : Int}, valF l vs = .error e → e = 1 ∨ e = 93
  | [], vs, e, h => by cases h
  | d :: r, vs, e, h => by
    simp only [valF] at h
    split at h
    · cases h; exact .inl rfl
    · split at h
      · cases h; exact .inr rfl
      · exact valF_err h
theorem valsB_len (l : List Df) : (valsB l).2 = 0 → (valsB l).1.length = l.length ∧ l.length ≤ 5004 := by
  intro h
  unfold valsB at h ⊢
  split at h
  · simp at h
  · rename_i hl
    rw [if_neg hl]
    cases hv : valF l [] with
    | error e =>
      rw [hv] at h
      rcases valF_err hv with rfl | rfl <;> simp at h
    | ok vs =>
      have := valF_len hv
      simp at this
      exact ⟨this, by omega⟩
theorem valsB_in (l : List Df) : ∀ v ∈ (valsB l).1, -maxV ≤ v ∧ v ≤ maxV := by
  unfold valsB
  split
  · intro v hv; simp at hv
  · cases hv : valF l [] with
    | error e => intro v hv; simp at hv
    | ok vs => exact valF_in (fun v hm => by simp at hm) hv
theorem valsB_few (l : List Df) : (valsB l).1.length ≤ 5004 := by
  by_cases h : (valsB l).2 = 0
  · have := valsB_len l h; omega
  · unfold valsB at h ⊢
    split
    · simp
    · rename_i hl
      rw [if_neg hl] at h
      cases hv : valF l [] with
      | error e => simp
      | ok vs => rw [hv] at h; simp at h
end Go.Proofs.Ytolehoibpnenlab
