/-
  Codes as plain lists: which are right, their bytes, how they are read.
-/
import Derived.Lib.ItoaNum
namespace Go.Proofs.YtignpgoicoojiaaDoor

/-- Four numbers: an instruction's, an arrow's. -/
abbrev Qd := Int × Int × Int × Int
structure Cd where
  letters : Int
  planes : Int
  regs : Int
  lo : Int
  hi : Int
  most : Int
  table : List Int
  consts : List Int
  cell : List Qd
  arrows : List Qd
def inB (lo hi n : Int) : Bool := !(decide (n < lo) || decide (hi < n))
theorem inB_iff {lo hi n : Int} : inB lo hi n = true ↔ lo ≤ n ∧ n ≤ hi := by simp [inB]
def allB (lo hi : Int) (l : List Int) : Bool := l.all (inB lo hi)
def q4 (q : Qd) : List Int := [q.1, q.2.1, q.2.2.1, q.2.2.2]
def headB (c : Cd) : Bool := inB 2 20 c.letters && inB 1 10 c.planes && inB 1 16 c.regs && inB 0 65536 c.most && allB (-65537) 65537 [c.lo, c.hi] && decide (c.lo ≤ c.hi)
def listsB (c : Cd) : Bool := decide ((c.table.length : Int) = c.letters * c.letters) && decide (c.consts.length ≤ 100) && allB (-1152921504606846976) 1152921504606846976 c.table && allB (-1152921504606846976) 1152921504606846976 c.consts
def cellB (l : List Qd) : Bool := decide (l.length ≤ 1000) && l.all fun q => inB 1 8 q.1 && allB 0 65535 [q.2.1, q.2.2.1, q.2.2.2]
def arrowsB (l : List Qd) : Bool := decide (l.length ≤ 160) && l.all fun q => allB 0 65535 (q4 q)
def rightB (c : Cd) : Bool := headB c && listsB c && cellB c.cell && arrowsB c.arrows

/-- A number and its sign as one number. -/
def dbl (n : Int) : Nat := if n < 0 then 2 * n.natAbs - 1 else 2 * n.natAbs
def hlv (m : Nat) : Int := if m % 2 = 1 then -((m / 2 : Nat) : Int) - 1 else ((m / 2 : Nat) : Int)
theorem dbl_hlv (m : Nat) : dbl (hlv m) = m := by
  unfold dbl hlv; split <;> split <;> omega
theorem hlv_dbl (n : Int) : hlv (dbl n) = n := by
  unfold dbl hlv; split <;> split <;> omega
def digsF : Nat → Nat → List UInt8
  | 0, _ => []
  | f + 1, m => if m < 128 then [UInt8.ofNat m] else UInt8.ofNat (m % 128 + 128) :: digsF f (m / 128)
theorem digsF_eq : ∀ (f g m : Nat), m < f → m < g → digsF f m = digsF g m
  | 0, _, _, h, _ => absurd h (Nat.not_lt_zero _)
  | _ + 1, 0, _, _, h => absurd h (Nat.not_lt_zero _)
  | f + 1, g + 1, m, h, k => by
    unfold digsF
    split
    · rfl
    · rw [digsF_eq f g (m / 128) (by omega) (by omega)]
/-- A number's digits of base 128, the lowest first. -/
def digs (m : Nat) : List UInt8 := digsF (m + 1) m
theorem digs_small {m : Nat} (h : m < 128) : digs m = [UInt8.ofNat m] := by rw [digs, digsF, if_pos h]
theorem digs_big {m : Nat} (h : ¬ m < 128) : digs m = UInt8.ofNat (m % 128 + 128) :: digs (m / 128) := by
  rw [digs, digsF, if_neg h, digs, digsF_eq m (m / 128 + 1) (m / 128) (by omega) (by omega)]
def numB (n : Int) : List UInt8 := digs (dbl n)
def numsB (l : List Int) : List UInt8 := l.flatMap numB
def qsB (l : List Qd) : List UInt8 := l.flatMap fun q => numsB (q4 q)
def markB : List UInt8 := [72, 76, 88, 49]
def bodyB (c : Cd) : List UInt8 := numsB [c.letters, c.planes, c.regs, c.lo, c.hi, c.most] ++ numsB c.table ++ numsB [(c.consts.length : Int)] ++ numsB c.consts ++ numsB [(c.cell.length : Int)] ++ qsB c.cell ++ numsB [(c.arrows.length : Int)] ++ qsB c.arrows
def ckGo (a b : Nat) : List UInt8 → Nat × Nat
  | [] => (a, b)
  | x :: l => ckGo ((a + x.toNat) % 65521) ((b + (a + x.toNat) % 65521) % 65521) l
def ck4 (p : Nat × Nat) : List UInt8 := [UInt8.ofNat (p.1 % 256), UInt8.ofNat (p.1 / 256), UInt8.ofNat (p.2 % 256), UInt8.ofNat (p.2 / 256)]
def checkB (l : List UInt8) : List UInt8 := ck4 (ckGo 1 0 l)
def textB (c : Cd) : List UInt8 := markB ++ bodyB c ++ checkB (markB ++ bodyB c)
def encA (c : Cd) : List UInt8 × Int := if rightB c then (textB c, 0) else ([], 150)

/- The reader: the place, and whether it is wrong. -/
abbrev Sr := Nat × Bool
def nextR (t : List UInt8) (s : Sr) : UInt8 × Sr := if s.2 || decide (s.1 = t.length) then (0, (s.1, true)) else (t.getD s.1 0, (s.1 + 1, false))
def numGo (t : List UInt8) : Nat → Nat → Nat → Sr → Int × Sr
  | 0, _, _, s => (0, (s.1, true))
  | f + 1, k, n, s =>
    if 128 ≤ (nextR t s).1.toNat then numGo t f (k + 1) (n + (nextR t s).1.toNat % 128 * 128 ^ k) (nextR t s).2
    else (hlv (n + (nextR t s).1.toNat % 128 * 128 ^ k), ((nextR t s).2.1, (nextR t s).2.2 || (decide ((nextR t s).1.toNat = 0) && decide (0 < k))))
def numR (t : List UInt8) (s : Sr) : Int × Sr := numGo t 9 0 0 s
def numsR (t : List UInt8) : Nat → Sr → List Int × Sr
  | 0, s => ([], s)
  | n + 1, s => ((numR t s).1 :: (numsR t n (numR t s).2).1, (numsR t n (numR t s).2).2)
def qdR (t : List UInt8) (s : Sr) : Qd × Sr :=
  let a := numR t s
  let b := numR t a.2
  let c := numR t b.2
  let d := numR t c.2
  ((a.1, b.1, c.1, d.1), d.2)
def qsR (t : List UInt8) : Nat → Sr → List Qd × Sr
  | 0, s => ([], s)
  | n + 1, s => ((qdR t s).1 :: (qsR t n (qdR t s).2).1, (qsR t n (qdR t s).2).2)
def upR (t : List UInt8) (most : Int) (s : Sr) : Nat × Sr :=
  if (numR t s).2.2 = true ∨ (numR t s).1 < 0 ∨ most < (numR t s).1 then (0, ((numR t s).2.1, true)) else ((numR t s).1.toNat, (numR t s).2)
def codeR (t : List UInt8) (s : Sr) : Cd × Sr :=
  let l := upR t 20 s
  let h := numsR t 5 l.2
  let tb := numsR t (l.1 * l.1) h.2
  let kn := upR t 100 tb.2
  let ks := numsR t kn.1 kn.2
  let cn := upR t 1000 ks.2
  let cs := qsR t cn.1 cn.2
  let an := upR t 160 cs.2
  let as := qsR t an.1 an.2
  (⟨l.1, h.1.getD 0 0, h.1.getD 1 0, h.1.getD 2 0, h.1.getD 3 0, h.1.getD 4 0, tb.1, ks.1, cs.1, as.1⟩, as.2)
/-- Past bytes that must stand there. -/
def expR (t u : List UInt8) (s : Sr) : Sr :=
  if s.2 = true ∨ t.length - s.1 < u.length then (s.1, true) else (s.1 + u.length, decide ((t.drop s.1).take u.length ≠ u))
def sealR (t : List UInt8) : Cd × Sr :=
  let c := codeR t (expR t markB (0, false))
  let e := expR t (checkB (t.take c.2.1)) c.2
  (c.1, (e.1, e.2 || decide (e.1 < t.length)))
def noCd : Cd := ⟨0, 0, 0, 0, 0, 0, [], [], [], []⟩
def decA (t : List UInt8) : Cd × Int := if (sealR t).2.2 = true ∨ rightB (sealR t).1 = false then (noCd, 150) else ((sealR t).1, 0)
end Go.Proofs.YtignpgoicoojiaaDoor
