/-
  What a tree means, in plain lists: definitions and their numbers, meanings, names; what is wrong, and where. Definitions and their numbers, in plain lists. Tokens in memory; rows that a call owns: what a store, an append, a call leaves of them.
-/
import Derived.Deep.OwnRows
import Derived.Lib.Bytealg
import GoSem.Claim
import Derived.Test.YtolehoibpnenlabProg
import Derived.WalkKit
import Derived.WalkSmall
import Derived.BigQuiet
import Derived.Deep.QuietTactic
import Derived.Lib.AppendStr
import Derived.Lib.OthersKept
namespace Go.Proofs.Ytolehoibpnenlab
open Go.Deep
structure Df where
  op : Int
  num : Int
  a : Int
  b : Int
abbrev maxV : Int := 144115188075855872
def inB (m v : Int) : Bool := decide (-m ≤ v) && decide (v ≤ m)
theorem inB_iff (m v : Int) : inB m v = true ↔ -m ≤ v ∧ v ≤ m := by simp [inB]
def vAt (vs : List Int) (i : Int) : Int := vs.getD i.toNat 0
/-- The number of a definition, by those ahead of it. -/
def rawB (vs : List Int) (d : Df) : Int :=
  if d.op = 2 then -(vAt vs d.a) else if d.op = 3 then vAt vs d.a + vAt vs d.b else if d.op = 4 then vAt vs d.a - vAt vs d.b
  else if d.op = 5 then vAt vs d.a * vAt vs d.b else if d.op = 6 then min (vAt vs d.a) (vAt vs d.b) else if d.op = 7 then max (vAt vs d.a) (vAt vs d.b) else d.num
end Go.Proofs.Ytolehoibpnenlab
namespace Go.Proofs.Ytolehoibpnenlab
open Go.Deep
def aheadB (a p : Int) : Bool := decide (0 ≤ a ∧ a < p)
/-- Whether a definition may stand at a place. -/
def defB (d : Df) (p : Int) : Bool :=
  if d.op = 1 then decide (d.a = 0 ∧ d.b = 0)
  else if d.op = 2 then decide (d.num = 0) && (aheadB d.a p && decide (d.b = 0))
  else if 3 ≤ d.op ∧ d.op ≤ 7 then decide (d.num = 0) && (aheadB d.a p && aheadB d.b p)
  else false
def valF : List Df → List Int → Except Int (List Int)
  | [], vs => .ok vs
  | d :: r, vs => if defB d vs.length = false then .error 1 else if inB maxV (rawB vs d) = false then .error 93 else valF r (vs ++ [rawB vs d])
def valsB (l : List Df) : List Int × Int :=
  if 5004 < l.length then ([], 2)
  else match valF l [] with
    | .error e => ([], e)
    | .ok vs => (vs, 0)
def valE : Except Int (List Int) → List Int × Int
  | .error e => ([], e)
  | .ok vs => (vs, 0)
theorem valsB_eq {l : List Df} (h : ¬ 5004 < l.length) : valsB l = valE (valF l []) := by
  unfold valsB
  rw [if_neg h]
  cases valF l [] <;> rfl
theorem valF_bad {d : Df} {r : List Df} {vs : List Int} (h : defB d vs.length = false) : valF (d :: r) vs = .error 1 := by simp [valF, h]
theorem valF_far {d : Df} {r : List Df} {vs : List Int} (h : defB d vs.length = true) (h2 : inB maxV (rawB vs d) = false) : valF (d :: r) vs = .error 93 := by simp [valF, h, h2]
theorem valF_ok {d : Df} {r : List Df} {vs : List Int} (h : defB d vs.length = true) (h2 : inB maxV (rawB vs d) = true) : valF (d :: r) vs = valF r (vs ++ [rawB vs d]) := by simp [valF, h, h2]
theorem valF_len : ∀ {l : List Df} {vs us : List Int}, valF l vs = .ok us → us.length = vs.length + l.length
  | [], vs, us, h => by cases h; simp
  | d :: r, vs, us, h => by
    simp only [valF] at h
    split at h
    · cases h
    · split at h
      · cases h
      · have := valF_len h
        simp at this ⊢; omega
theorem valF_in : ∀ {l : List Df} {vs us : List Int}, (∀ v ∈ vs, -maxV ≤ v ∧ v ≤ maxV) → valF l vs = .ok us → ∀ v ∈ us, -maxV ≤ v ∧ v ≤ maxV
  | [], vs, us, hv, h => by cases h; exact hv
  | d :: r, vs, us, hv, h => by
    simp only [valF] at h
    split at h
    · cases h
    · split at h
      · cases h
      · rename_i hb
        refine valF_in (fun v hm => ?_) h
        rcases List.mem_append.1 hm with h1 | h1
        · exact hv v h1
        · rw [List.mem_singleton.1 h1]
          have : inB maxV (rawB vs d) = true := by simpa using hb
          exact (inB_iff _ _).1 this
theorem valF_err : ∀ {l : List Df} {vs : List Int} {e : Int}, valF l vs = .error e → e = 1 ∨ e = 93
  | [], vs, e, h => by cases h
  | d :: r, vs, e, h => by
    simp only [valF] at h
    split at h
    · cases h; exact .inl rfl
    · split at h
      · cases h; exact .inr rfl
      · exact valF_err h
theorem valsB_len (l : List Df) : (valsB l).2 = 0 → (valsB l).1.length = l.length ∧ l.length ≤ 5004 := by
  intro h
  unfold valsB at h ⊢
  split at h
  · simp at h
  · rename_i hl
    rw [if_neg hl]
    cases hv : valF l [] with
    | error e =>
      rw [hv] at h
      rcases valF_err hv with rfl | rfl <;> simp at h
    | ok vs =>
      have := valF_len hv
      simp at this
      exact ⟨this, by omega⟩
theorem valsB_in (l : List Df) : ∀ v ∈ (valsB l).1, -maxV ≤ v ∧ v ≤ maxV := by
  unfold valsB
  split
  · intro v hv; simp at hv
  · cases hv : valF l [] with
    | error e => intro v hv; simp at hv
    | ok vs => exact valF_in (fun v hm => by simp at hm) hv
theorem valsB_few (l : List Df) : (valsB l).1.length ≤ 5004 := by
  by_cases h : (valsB l).2 = 0
  · have := valsB_len l h; omega
  · unfold valsB at h ⊢
    split
    · simp
    · rename_i hl
      rw [if_neg hl] at h
      cases hv : valF l [] with
      | error e => simp
      | ok vs => rw [hv] at h; simp at h
end Go.Proofs.Ytolehoibpnenlab
namespace Go.Proofs.Ytolehoibpnenlab
open Go.RowKit
theorem ret_int {k : IntKind} {a b : Int} (h : a = b) : Ending.returned (.int k a) = .returned (.int k b) := by rw [h]
theorem ret_bool {a b : Bool} (h : a = b) : Ending.returned (.bool a) = .returned (.bool b) := by rw [h]
theorem flat_get {α : Type} {f : α → List Value} {s : Nat} (h : ∀ a, (f a).length = s) : ∀ (l : List α) (i : Nat) (a : α) (j : Nat) (u : Value), l[i]? = some a → (f a)[j]? = some u → (l.flatMap f)[i * s + j]? = some u
  | [], i, a, j, u, hi, _ => by simp at hi
  | b :: r, 0, a, j, u, hi, hj => by
    simp at hi; subst hi
    have hlt : j < (f b).length := (List.getElem?_eq_some_iff.1 hj).1
    rw [List.flatMap_cons, Nat.zero_mul, Nat.zero_add, List.getElem?_append_left hlt]; exact hj
  | b :: r, i + 1, a, j, u, hi, hj => by
    have e : (i + 1) * s + j = s + (i * s + j) := by rw [Nat.add_mul, Nat.one_mul]; omega
    rw [List.flatMap_cons, List.getElem?_append_right (by rw [h b]; omega), h b, e, Nat.add_sub_cancel_left]
    exact flat_get h r i a j u (by simpa using hi) hj
theorem owned_shape {w : World} {base : Nat} {e : TypeId} {size : Nat} {v : Value} {n : Nat} {xs : List Value} (h : w.ownsRow base e size v n xs) : ∃ ao cap, v = .slice ao n cap := by
  rcases h.2 with ⟨rfl, rfl⟩ | ⟨g, cap, _, rfl, _⟩
  · exact ⟨none, 0, rfl⟩
  · exact ⟨some ⟨g, 0, none⟩, cap, rfl⟩
theorem lt_block {w : World} {g : Nat} {o : Obj} (h : w.heap[g]? = some o) : g < w.heap.size := (Array.getElem?_eq_some_iff.1 h).1
/-- A row stays owned where its block stays as it is. -/
theorem owned_of_block {w w' : World} {base : Nat} {e : TypeId} {size : Nat} {v : Value} {n : Nat} {xs : List Value} (h : w.ownsRow base e size v n xs)
    (hk : ∀ g cur, v.ownBlock = some g → w.heap[g]? = some (.cells cur e (0, 0)) → w'.heap[g]? = w.heap[g]?) : w'.ownsRow base e size v n xs := by
  refine ⟨h.1, ?_⟩
  rcases h.2 with hn | ⟨g, cap, cur, hv, hb, hg, rest⟩
  · exact .inl hn
  · exact .inr ⟨g, cap, cur, hv, hb, by rw [hk g cur (by rw [hv]; rfl) hg]; exact hg, rest⟩
theorem owned_below {w w' : World} {base : Nat} {e : TypeId} {size : Nat} {v : Value} {n : Nat} {xs : List Value} (h : w.ownsRow base e size v n xs) (hb : Below w.heap.size w w') : w'.ownsRow base e size v n xs :=
  owned_of_block h fun g _ _ hg => hb.block g (lt_block hg)
theorem owned_grown {w w' : World} {base : Nat} {e t : TypeId} {size : Nat} {v : Value} {n : Nat} {xs : List Value} (h : w.ownsRow base e size v n xs) {v2 : Value} {n2 : Nat} {xs2 : List Value} {base2 size2 : Nat}
    (h2 : w.ownsRow base2 t size2 v2 n2 xs2) (hne : e ≠ t) (hg : w.grownBy w' v2.ownBlock) : w'.ownsRow base e size v n xs :=
  owned_of_block h fun g cur _ hc => hg.block g (lt_block hc) (fun e' => by
    rcases h2.2 with ⟨hv, _⟩ | ⟨g', cap', cur', hv, _, hg', _⟩
    · rw [hv] at e'; cases e'
    · rw [hv] at e'; simp [Value.ownBlock] at e'; subst e'; rw [hg'] at hc; cases hc; exact hne rfl)
theorem owned_cells {w : World} {base : Nat} {e : TypeId} {size : Nat} {g n cap : Nat} {xs : List Value} (h : w.ownsRow base e size (.slice (some ⟨g, 0, none⟩) n cap) n xs) (j : Nat) (u : Value) (hj : xs[j]? = some u) :
    w.cell? ⟨g, j, none⟩ = some u ∧ w.frozen? ⟨g, j, none⟩ = false := by
  rcases h.2 with ⟨hv, _⟩ | ⟨g', cap', cur, hv, hb, hg, h1, h2, h3, h4⟩
  · cases hv
  · cases hv
    refine ⟨?_, frozen_of_row w g j cur e hg⟩
    rw [cell_of_row w g j cur e (0, 0) hg]
    rw [← h4] at hj
    have h5 : j < (cur.toList.take (n * size)).length := (List.getElem?_eq_some_iff.1 hj).1
    have h6 : j < n * size := by simp at h5; omega
    rw [List.getElem?_take_of_lt h6] at hj
    simpa using hj
theorem owned_some {w : World} {base : Nat} {v : Value} {n : Nat} {e : TypeId} {size : Nat} {xs : List Value} (h : w.ownsRow base e size v n xs) (hn : 0 < n) : ∃ g cap, v = .slice (some ⟨g, 0, none⟩) n cap ∧ base ≤ g ∧ n ≤ cap ∧ n ≤ maxLen ∧ g < w.heap.size := by
  rcases h.2 with ⟨_, h0⟩ | ⟨g, cap, cur, hv, hb, hg, h1, h2, h3, h4⟩
  · omega
  · exact ⟨g, cap, hv, hb, h1, by omega, lt_block hg⟩
theorem owned_base {w : World} {b b' : Nat} {e : TypeId} {size : Nat} {v : Value} {n : Nat} {xs : List Value} (h : w.ownsRow b e size v n xs) (hb : b' ≤ b) : w.ownsRow b' e size v n xs := by
  refine ⟨h.1, ?_⟩
  rcases h.2 with hn | ⟨g, cap, cur, hv, h1, rest⟩
  · exact .inl hn
  · exact .inr ⟨g, cap, cur, hv, by omega, rest⟩
end Go.Proofs.Ytolehoibpnenlab
