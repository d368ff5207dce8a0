/-
  Passes, in plain lists.
-/
import Derived.Test.YtolehoibpnenlabRcA
namespace Go.Proofs.Ytolehoibpnenlab
open Go.RowKit Go.Deep Go.Maps

/-- The edges that stay where a state goes. -/
def woE (g : Int) (l : List (Int × Int)) : List (Int × Int) := (l.filter fun e => e.1 != g).map fun e => (if g < e.1 then e.1 - 1 else e.1, e.2)
/-- A state is taken away. -/
def takeB (g : Nat) (l : List St) : List St := (l.eraseIdx g).map fun s => (s.1, woE g s.2)
def costN (vs : List Int) (c : Int) : Int := if c = -1 then 0 else vAt vs c
/-- Clamp. -/
def clampB (x : Rc) : Rc :=
  if x.banded then
    if 65536 < x.lo then { x with lo := 65537, hi := 65537 }
    else if x.hi < -65536 then { x with lo := -65537, hi := -65537 }
    else if max x.lo (-65536) = -65536 ∧ min x.hi 65536 = 65536 then { x with banded := false, lo := 0, hi := 0 }
    else { x with lo := max x.lo (-65536), hi := min x.hi 65536 }
  else x
/-- Drop. -/
def barB (x : Rc) (k : Int) : Bool := decide (k ≠ 1) && (x.banded && decide (x.lo = x.hi))
def leadB (f : List Bool) (s : Int) : Bool := decide (s = -1) || f.getD s.toNat false
def okS (x : Rc) (f : List Bool) (s : St) : Bool := !barB x s.1 && s.2.any fun e => leadB f e.1
def stepF (x : Rc) (f : List Bool) (k : Nat) : List Bool := f.set k (okS x f (x.states.getD k (0, [])))
def sweepF (x : Rc) (f : List Bool) : Nat → List Bool
  | 0 => f
  | k + 1 => stepF x (sweepF x f k) k
def roundsF (x : Rc) : Nat → List Bool
  | 0 => List.replicate x.states.length false
  | k + 1 => sweepF x (roundsF x k) x.states.length
def foundB (x : Rc) : List Bool := roundsF x x.states.length
def dropG (f : List Bool) : Nat → List St → List St
  | 0, l => l
  | k + 1, l => dropG f k (if f.getD k false then l else takeB k l)
def dropB (x : Rc) : Rc := { x with states := dropG (foundB x) x.states.length x.states }
/-- Fold. -/
def costsL (l : List (Int × Int)) : List Int := (l.map (·.2)).filter fun c => decide (c ≠ -1)
def costsS (l : List St) : List Int := l.flatMap fun s => costsL s.2
def placesL (x : Rc) : List Int := x.front :: x.back :: (x.subst ++ costsS x.states)
def numsP (x : Rc) (vs : List Int) : List Int := (placesL x).map (vAt vs)
def idxB (k : List Int) (v : Int) : Int := ((k.filter fun z => decide (z < v)).length : Nat)
def numD (n : Int) : Df := ⟨1, n, 0, 0⟩
def foldE (k vs : List Int) (e : Int × Int) : Int × Int := (e.1, if e.2 = -1 then -1 else idxB k (vAt vs e.2))
def foldS (k vs : List Int) (s : St) : St := (s.1, s.2.map (foldE k vs))
def foldW (k vs : List Int) (x : Rc) : Rc :=
  { x with defs := k.map numD, subst := x.subst.map fun p => idxB k (vAt vs p), front := idxB k (vAt vs x.front), back := idxB k (vAt vs x.back), states := x.states.map (foldS k vs) }
/-- A number into a rising list, once. -/
def withF (n : Int) (put : Bool) : List Int → List Int
  | [] => if put then [] else [n]
  | a :: r => (if !put && decide (n ≤ a) then [n] else []) ++ ((if a ≠ n then [a] else []) ++ withF n (put || decide (n ≤ a)) r)
def keptB (x : Rc) (vs : List Int) : List Int := (numsP x vs).foldl (fun l n => withF n false l) []
def foldB (x : Rc) (vs : List Int) : Rc := foldW (keptB x vs) vs x
/-- Prune. -/
def edgeB (l : List St) (a b : Int) : Option (Int × Int) := (l.getD b.toNat (0, [])).2.find? fun e => decide (e.1 = a)
def othersB (l : List St) (s : Nat) : List (Int × Int) := (l.getD s (0, [])).2.filter fun e => decide (e.1 ≠ s)
def gapB (vs : List Int) (l : List St) (s : Nat) : Option (Int × Int) :=
  match edgeB l s s with
  | none => none
  | some own =>
    if (l.getD s (0, [])).1 = 1 then none
    else match othersB l s with
      | [] => none
      | o :: r => if (o :: r).all (fun e => decide (costN vs e.2 = costN vs o.2)) then some (costN vs o.2, costN vs own.2) else none
def comeB (l : List St) (a b : Nat) : Bool := decide ((othersB l a).map (·.1) = (othersB l b).map (·.1))
def leadO (vs : List Int) (l : List St) (a b t : Nat) : Bool :=
  match edgeB l a t, edgeB l b t with
  | none, none => true
  | some p, some q => decide (costN vs p.2 = costN vs q.2)
  | _, _ => false
def leadA (vs : List Int) (l : List St) (a b : Nat) : Bool := (List.range l.length).all fun t => decide (t = a) || decide (t = b) || leadO vs l a b t
def twinB (vs : List Int) (l : List St) (s t : Nat) : Option (Int × Int) :=
  match gapB vs l t with
  | none => none
  | some g => if t ≠ s ∧ (l.getD t (0, [])).1 = (l.getD s (0, [])).1 ∧ comeB l s t = true ∧ leadA vs l s t = true then some g else none
def twinsB (vs : List Int) (l : List St) (s : Nat) : List (Int × Int) := (List.range l.length).filterMap (twinB vs l s)
def bestG (g : Int × Int) : List (Int × Int) → Int → Int → Bool
  | [], up, fr => decide (fr ≤ up + 1)
  | t :: r, up, fr =>
    if t.1 - g.1 ≤ 0 ∧ t.2 - g.2 ≤ 0 then true
    else if t.1 - g.1 ≤ 0 then bestG g r (max up ((-(t.1 - g.1)) / (t.2 - g.2))) fr
    else if t.2 - g.2 < 0 then bestG g r up (min fr ((t.1 - g.1 - 1) / (-(t.2 - g.2)) + 1))
    else bestG g r up fr
def neverB (g : Int × Int) (l : List (Int × Int)) : Bool := bestG g l (-1) 9223372036854775807
def goneB (vs : List Int) (l : List St) (s : Nat) : Bool :=
  match gapB vs l s with
  | none => false
  | some g => neverB g (twinsB vs l s)
def pruneG (vs : List Int) : Nat → List St → List St
  | 0, l => l
  | k + 1, l => pruneG vs k (if goneB vs l k then takeB k l else l)
def pruneB (x : Rc) (vs : List Int) : Rc := { x with states := pruneG vs x.states.length x.states }
end Go.Proofs.Ytolehoibpnenlab
