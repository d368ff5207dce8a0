/-
  Paths in plain lists: cells, where a path may begin and end, how far columns lead, all paths that come to a cell.
-/
import Derived.Test.YtegndeefddlccaaBdP
namespace Go.Proofs.Ytegndeefddlccaa

structure Pt where
  i : Int
  j : Int
  cols : List UInt8

def hasB (m : Md) (nx ny : Nat) (i j : Int) : Bool := decide (0 ≤ i ∧ i ≤ nx ∧ 0 ≤ j ∧ j ≤ ny) && (!m.banded || decide (m.lo ≤ j - i ∧ j - i ≤ m.hi))
def beginB (m : Md) (i j : Int) : Bool := if m.mode = 2 then decide (j = 0) else if m.mode = 3 then true else decide (i = 0 ∧ j = 0)
def endB (m : Md) (nx ny : Nat) (i j : Int) : Bool := if m.mode = 1 then decide (i = nx ∧ j = ny) else if m.mode = 2 then decide (j = ny) else true
def goB (m : Md) (c : UInt8) : Bool := c == 77 || ((c == 68 || c == 73) && decide (m.gaps ≠ []))
def dnB (c : UInt8) : Int := if c = 77 ∨ c = 68 then 1 else 0
def ovB (c : UInt8) : Int := if c = 77 ∨ c = 73 then 1 else 0

/-- All paths that begin where they may, come to a cell, and go on by some columns. -/
def intoF (m : Md) (nx ny : Nat) : Nat → Int → Int → List UInt8 → List Pt
  | 0, _, _, _ => []
  | n + 1, i, j, b =>
    if hasB m nx ny i j then
      (if beginB m i j then [⟨i, j, b⟩] else []) ++ ([77, 68, 73] : List UInt8).flatMap fun c => if goB m c then intoF m nx ny n (i - dnB c) (j - ovB c) (c :: b) else []
    else []
theorem intoF_no {m : Md} {nx ny n : Nat} {i j : Int} {b : List UInt8} (h : hasB m nx ny i j = false) : intoF m nx ny n i j b = [] := by
  cases n with
  | zero => rfl
  | succ n => simp [intoF, h]
theorem hasB_cells {m : Md} {nx ny : Nat} {i j : Int} (h : hasB m nx ny i j = true) : 0 ≤ i ∧ i ≤ nx ∧ 0 ≤ j ∧ j ≤ ny := by
  simp [hasB] at h; omega
/-- All legal paths, in order. -/
def pathsB (m : Md) (nx ny : Nat) : List Pt :=
  (List.range (nx + 1)).flatMap fun (i : Nat) => (List.range (ny + 1)).flatMap fun (j : Nat) => if endB m nx ny (i : Int) (j : Int) then intoF m nx ny (i + j + 1) (i : Int) (j : Int) [] else []
end Go.Proofs.Ytegndeefddlccaa
