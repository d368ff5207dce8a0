/-
  Runs, in plain values: what each instruction does at a cell, what is told.
-/
import Derived.Test.YtjpeoejielamiaaVrP
namespace Go.Proofs.Ytjpeoejielamiaa
open Go.RowKit

/-- What a register has, or a plane at a cell. -/
structure Ct where
  has : Bool
  mask : Int
  num : Int
def ct0 : Ct := ⟨false, 0, 0⟩
/-- The greatest ends so far. -/
structure En where
  found : Bool
  score : Int
  i : Int
  j : Int
  planes : Nat → Bool
def en0 : En := ⟨false, 0, 0, 0, fun _ => false⟩
/-- A run: registers, the planes' slots by their places, ends, steps. -/
structure Ms where
  regs : Nat → Ct
  slots : Nat → Ct
  ends : En
  steps : Int
def ms0 : Ms := ⟨fun _ => ct0, fun _ => ct0, en0, 0⟩
def updC (f : Nat → Ct) (k : Nat) (x : Ct) : Nat → Ct := fun i => if i = k then x else f i
theorem updC_same (f : Nat → Ct) (k : Nat) (x : Ct) : updC f k x k = x := if_pos rfl
theorem updC_ne (f : Nat → Ct) {k i : Nat} (x : Ct) (h : i ≠ k) : updC f k x i = f i := if_neg h
def placeB (P y p i j : Nat) : Nat := (i * (y + 1) + j) * P + p
theorem place_lt {P x y p i j : Nat} (hp : p < P) (hi : i ≤ x) (hj : j ≤ y) : placeB P y p i j < P * (x + 1) * (y + 1) := by
  unfold placeB
  have h1 : i * (y + 1) + j < (x + 1) * (y + 1) := by
    have : i * (y + 1) ≤ x * (y + 1) := Nat.mul_le_mul_right _ hi
    rw [Nat.add_mul x 1, Nat.one_mul]; omega
  have h2 : (i * (y + 1) + j + 1) * P ≤ (x + 1) * (y + 1) * P := Nat.mul_le_mul_right _ h1
  rw [Nat.add_mul _ 1, Nat.one_mul] at h2
  rw [Nat.mul_assoc P, Nat.mul_comm P]; omega
def inR (n : Int) (m : Nat) : Bool := decide (0 ≤ n) && decide (n < (m : Int))
/-- What a plane has at a cell, or beside all cells. -/
def atB (P x y : Nat) (f : Nat → Ct) (p i j : Int) : Ct :=
  if inR p P && inR i (x + 1) && inR j (y + 1) then f (placeB P y p.toNat i.toNat j.toNat) else ct0
def metB (w : Int) (row col : Bool) : Bool := if w = 1 then row else if w = 2 then col else if w = 3 then row && col else true
def backB (c : Int) : Int × Int := if c = 1 then (1, 1) else if c = 2 then (1, 0) else if c = 3 then (0, 1) else (0, 0)
def bitB (c : Int) : Int := ((2 ^ c.toNat : Nat) : Int)
/-- What a meet makes of both. -/
def metC (a b : Ct) (c : Int) : Ct :=
  if b.has = false then a else if (!a.has || decide (a.num < b.num)) = true then ⟨true, bitB c, b.num⟩ else if a.num = b.num then ⟨a.has, ((a.mask.toNat ||| (2 ^ c.toNat) : Nat) : Int), a.num⟩ else a
def endB (e : En) (p : Nat) (i j n : Int) : En :=
  let e1 : En := if (!e.found || decide (e.score < n)) = true then ⟨true, n, i, j, fun _ => false⟩ else e
  if e1.score = n ∧ e1.i = i ∧ e1.j = j then ⟨e1.found, e1.score, e1.i, e1.j, fun k => if k = p then true else e1.planes k⟩ else e1
/-- One instruction at the cell (i, j). -/
def actB (c : Cd) (x y : List Int) (i j : Nat) (M : Ms) (q : Qd) : Ms :=
  if q.1 = 1 then { M with regs := updC M.regs q.2.1.toNat ct0 }
  else if q.1 = 2 then { M with regs := updC M.regs q.2.1.toNat (if metB q.2.2.2 (decide (i = 0)) (decide (j = 0)) then ⟨true, 0, c.consts.getD q.2.2.1.toNat 0⟩ else ct0) }
  else if q.1 = 3 then
    let f := atB c.planes.toNat x.length y.length M.slots q.2.2.1 ((i : Int) - (backB q.2.2.2).1) ((j : Int) - (backB q.2.2.2).2)
    { M with regs := updC M.regs q.2.1.toNat ⟨f.has, 0, f.num⟩ }
  else if q.1 = 4 then
    let a := M.regs q.2.1.toNat
    { M with regs := if a.has then updC M.regs q.2.1.toNat ⟨a.has, a.mask, wrap64 (a.num + c.consts.getD q.2.2.1.toNat 0)⟩ else M.regs }
  else if q.1 = 5 then
    let a := M.regs q.2.1.toNat
    if i = 0 ∨ j = 0 then { M with regs := updC M.regs q.2.1.toNat ⟨false, a.mask, 0⟩ }
    else { M with regs := if a.has then updC M.regs q.2.1.toNat ⟨a.has, a.mask, wrap64 (a.num + c.table.getD (x.getD (i - 1) 0 * c.letters + y.getD (j - 1) 0).toNat 0)⟩ else M.regs }
  else if q.1 = 6 then { M with regs := updC M.regs q.2.1.toNat (metC (M.regs q.2.1.toNat) (M.regs q.2.2.1.toNat) q.2.2.2) }
  else if q.1 = 7 then
    let b := M.regs q.2.2.1.toNat
    { M with slots := updC M.slots (placeB c.planes.toNat y.length q.2.1.toNat i j) (if b.has then b else ct0) }
  else
    let v := atB c.planes.toNat x.length y.length M.slots q.2.1 i j
    if (v.has && metB q.2.2.2 (decide (i = x.length)) (decide (j = y.length))) = true then { M with ends := endB M.ends q.2.1.toNat i j (wrap64 (v.num + c.consts.getD q.2.2.1.toNat 0)) } else M
/-- All instructions at a cell. -/
def cellM (c : Cd) (x y : List Int) (i j : Nat) (M : Ms) : Ms :=
  let M1 := c.cell.foldl (actB c x y i j) M
  { M1 with steps := wrap64 (M1.steps + (c.cell.length : Int)) }
/-- The cells of a row that are run: from which on, up to which one. -/
def rowLo (c : Cd) (i : Nat) : Nat := (max 0 ((i : Int) + c.lo)).toNat
def rowHi (c : Cd) (y : List Int) (i : Nat) : Int := min (y.length : Int) ((i : Int) + c.hi)
def rowM (c : Cd) (x y : List Int) (i : Nat) (M : Ms) : Ms := (List.range' (rowLo c i) ((rowHi c y i) + 1 - (rowLo c i : Int)).toNat).foldl (fun M j => cellM c x y i j M) M
def runM (c : Cd) (x y : List Int) : Ms := (List.range (x.length + 1)).foldl (fun M i => rowM c x y i M) ms0
def letB (L : Int) (l : List Int) : Bool := l.all fun n => !(decide (n < 0) || decide (L ≤ n))
/-- Why a code can't be run; what Check tells as a number. -/
def refB (e : Int) (c : Cd) (x y : List Int) : Int :=
  if e ≠ 0 then e else if c.most < (x.length : Int) ∨ c.most < (y.length : Int) then 170 else if letB c.letters x = false ∨ letB c.letters y = false then 11
  else if (1048576 : Int) < ((x.length : Int) + 1) * ((y.length : Int) + 1) then 131 else 0
/-- What Best tells. -/
def risB (e : En) : List Int := ((List.range 10).filter e.planes).map Int.ofNat
end Go.Proofs.Ytjpeoejielamiaa
