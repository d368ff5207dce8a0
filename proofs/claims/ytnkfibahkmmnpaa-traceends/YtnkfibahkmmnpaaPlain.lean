/-
  Codes as plain lists: which are right.
-/
import Derived.WalkKit
namespace Go.Proofs.Ytnkfibahkmmnpaa

/-- Four numbers: an instruction's, an arrow's. -/
abbrev Qd := Int × Int × Int × Int
structure Cd where
  letters : Int
  planes : Int
  regs : Int
  lo : Int
  hi : Int
  most : Int
  table : List Int
  consts : List Int
  cell : List Qd
  arrows : List Qd
def inB (lo hi n : Int) : Bool := !(decide (n < lo) || decide (hi < n))
theorem inB_iff {lo hi n : Int} : inB lo hi n = true ↔ lo ≤ n ∧ n ≤ hi := by simp [inB]
def allB (lo hi : Int) (l : List Int) : Bool := l.all (inB lo hi)
def q4 (q : Qd) : List Int := [q.1, q.2.1, q.2.2.1, q.2.2.2]
def headB (c : Cd) : Bool := inB 2 20 c.letters && inB 1 10 c.planes && inB 1 16 c.regs && inB 0 65536 c.most && allB (-65537) 65537 [c.lo, c.hi] && decide (c.lo ≤ c.hi)
def listsB (c : Cd) : Bool := decide ((c.table.length : Int) = c.letters * c.letters) && decide (c.consts.length ≤ 100) && allB (-1152921504606846976) 1152921504606846976 c.table && allB (-1152921504606846976) 1152921504606846976 c.consts
def cellB (l : List Qd) : Bool := decide (l.length ≤ 1000) && l.all fun q => inB 1 8 q.1 && allB 0 65535 [q.2.1, q.2.2.1, q.2.2.2]
def arrowsB (l : List Qd) : Bool := decide (l.length ≤ 160) && l.all fun q => allB 0 65535 (q4 q)
def rightB (c : Cd) : Bool := headB c && listsB c && cellB c.cell && arrowsB c.arrows

end Go.Proofs.Ytnkfibahkmmnpaa
