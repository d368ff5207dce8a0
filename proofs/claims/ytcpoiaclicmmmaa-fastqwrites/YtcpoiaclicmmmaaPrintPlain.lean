/-
  What is written, as plain lists of bytes.
-/
import Derived.Test.YtcpoiaclicmmmaaPlain
namespace Go.Proofs.Ytcpoiaclicmmmaa

/-- A read's four lines. -/
def recB (q : Pr) : List UInt8 := (64 :: joinB q.1 q.2.1) ++ [10] ++ (q.2.2.1 ++ [10] ++ ([43] ++ [10] ++ (q.2.2.2 ++ [10])))
def okQ (q : Pr) : Bool := nameB q.1 && (noteB q.2.1 && (basesB q.2.2.1 && lastB q.2.2.1 q.2.2.2))
def allQ (l : List Pr) : List UInt8 := (l.map recB).flatten
def printQ (l : List Pr) : List UInt8 × Nat :=
  if 256 < l.length then ([], 2)
  else if l.all okQ = false then ([], 30)
  else if 1048576 < (allQ l).length then ([], 2)
  else (allQ l, 0)

theorem join_length (a b : List UInt8) : (joinB a b).length ≤ a.length + b.length + 1 := by
  unfold joinB
  split
  · omega
  · simp; omega
theorem recB_length (q : Pr) (h : okQ q = true) : (recB q).length ≤ 131300 := by
  simp only [okQ, nameB, noteB, basesB, lastB, Bool.and_eq_true, decide_eq_true_eq] at h
  have h2 := join_length q.1 q.2.1
  simp only [recB, List.length_append, List.length_cons, List.length_nil]
  omega
theorem allQ_take_le (l : List Pr) (k : Nat) : (allQ (l.take k)).length ≤ (allQ l).length := by
  have : allQ l = allQ (l.take k) ++ allQ (l.drop k) := by
    conv => lhs; rw [← List.take_append_drop k l]
    unfold allQ
    rw [List.map_append, List.flatten_append]
  rw [this, List.length_append]
  omega
end Go.Proofs.Ytcpoiaclicmmmaa
