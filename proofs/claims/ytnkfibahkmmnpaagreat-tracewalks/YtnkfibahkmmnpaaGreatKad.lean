/-
  What is known of a code's registers and planes, instruction by instruction, in plain values; what Check tells. Runs, in plain values: what each instruction does at a cell, what is told.
-/
import Derived.Test.YtnkfibahkmmnpaaGreatKz
namespace Go.Proofs.YtnkfibahkmmnpaaGreat

/-- What is known of a register; a way is a bit and an origin's three numbers. -/
structure Rg where
  wr : Bool
  kind : Int
  plane : Int
  step : Int
  met : Bool
  ways : List Qd
  weight : Int
/-- What is known of registers and planes, and the greatest weight. -/
structure St where
  regs : Nat → Rg
  pl : Nat → Bool × Int
  top : Int
def rg0 : Rg := ⟨false, 0, 0, 0, false, [], 0⟩
def st0 (t : Int) : St := ⟨fun _ => rg0, fun _ => (false, 0), t⟩
def updR (f : Nat → Rg) (k : Nat) (x : Rg) : Nat → Rg := fun i => if i = k then x else f i
def updP (f : Nat → Bool × Int) (k : Nat) (x : Bool × Int) : Nat → Bool × Int := fun i => if i = k then x else f i
theorem updR_same (f : Nat → Rg) (k : Nat) (x : Rg) : updR f k x k = x := if_pos rfl
theorem updR_ne (f : Nat → Rg) {k i : Nat} (x : Rg) (h : i ≠ k) : updR f k x i = f i := if_neg h
theorem updP_same (f : Nat → Bool × Int) (k : Nat) (x : Bool × Int) : updP f k x k = x := if_pos rfl
theorem updP_ne (f : Nat → Bool × Int) {k i : Nat} (x : Bool × Int) (h : i ≠ k) : updP f k x i = f i := if_neg h
def setR (S : St) (k : Nat) (x : Rg) : St := ⟨updR S.regs k x, S.pl, S.top⟩
def setP (S : St) (k : Nat) (x : Bool × Int) : St := ⟨S.regs, updP S.pl k x, S.top⟩
def weighP (S : St) (n : Int) : St := ⟨S.regs, S.pl, max S.top n⟩
def writeP (S : St) (a : Nat) (r : Rg) : St := weighP (setR S a { r with wr := true }) r.weight
def loadB (S : St) (p c : Int) : Rg := if c = 0 then ⟨false, 3, 0, 0, false, [], (S.pl p.toNat).2⟩ else ⟨false, 2, p, c, false, [], 0⟩
def wayB (x : Rg) (bit : Int) : Qd := if x.met then (bit, 3, 0, 0) else (bit, x.kind, x.plane, x.step)
def meetB (r x : Rg) (bit : Int) : Rg := ⟨r.wr, r.kind, r.plane, r.step, true, r.ways ++ [wayB x bit], max r.weight x.weight⟩
def addB (r : Rg) : Rg := ⟨r.wr, r.kind, r.plane, r.step, r.met, r.ways, r.weight + 1⟩
/-- What a right instruction leaves. -/
def pastP (S : St) (q : Qd) : St :=
  if q.1 = 1 then writeP S q.2.1.toNat rg0
  else if q.1 = 2 then writeP S q.2.1.toNat ⟨false, 1, 0, 0, false, [], 1⟩
  else if q.1 = 3 then writeP S q.2.1.toNat (loadB S q.2.2.1 q.2.2.2)
  else if q.1 = 4 ∨ q.1 = 5 then weighP (setR S q.2.1.toNat (addB (S.regs q.2.1.toNat))) ((S.regs q.2.1.toNat).weight + 1)
  else if q.1 = 6 then setR S q.2.1.toNat (meetB (S.regs q.2.1.toNat) (S.regs q.2.2.1.toNat) q.2.2.2)
  else if q.1 = 7 then setP S q.2.1.toNat (true, (S.regs q.2.2.1.toNat).weight)
  else weighP S ((S.pl q.2.1.toNat).2 + 1)
def limB (c : Cd) (op : Int) : Int × Int × Int :=
  if op = 2 then (c.regs, (c.consts.length : Int), 4)
  else if op = 3 then (c.regs, c.planes, 4)
  else if op = 4 then (c.regs, (c.consts.length : Int), 1)
  else if op = 6 then (c.regs, c.regs, 16)
  else if op = 7 then (c.planes, c.regs, 1)
  else if op = 8 then (c.planes, (c.consts.length : Int), 4)
  else (c.regs, 1, 1)
def namB (c : Cd) (q : Qd) : Bool := decide (q.2.1 < (limB c q.1).1) && decide (q.2.2.1 < (limB c q.1).2.1) && decide (q.2.2.2 < (limB c q.1).2.2)
def rdB (S : St) (q : Qd) : Bool :=
  if q.1 = 3 then !(q.2.2.2 == 0) || (S.pl q.2.2.1.toNat).1
  else if q.1 = 4 ∨ q.1 = 5 then (S.regs q.2.1.toNat).wr
  else if q.1 = 6 then (S.regs q.2.1.toNat).wr && (S.regs q.2.2.1.toNat).wr
  else if q.1 = 7 then (S.regs q.2.2.1.toNat).wr
  else if q.1 = 8 then (S.pl q.2.1.toNat).1
  else true
def twB (S : St) (q : Qd) : Bool := q.1 == 7 && (S.pl q.2.1.toNat).1
def orB (k : Int) : Bool := k == 0 || k == 1
def begB (r : Rg) : Bool := (r.ways.all fun x => orB x.2.1) && orB r.kind
def folB (x a : Qd) : Bool := decide (x.2 = (2, a.2.2.1, a.2.2.2)) && x.1 == a.2.1
def comB (r : Rg) (p : Int) (l : List Qd) : Bool := r.kind == 0 && r.ways.all fun x => l.any fun a => a.1 == p && folB x a
def gdB (c : Cd) (S : St) (q : Qd) : Bool := if q.1 = 7 then (if q.2.1 = 0 then begB (S.regs q.2.2.1.toNat) else comB (S.regs q.2.2.1.toNat) q.2.1 c.arrows) else true
/-- What is wrong with an instruction. -/
def errB (c : Cd) (S : St) (q : Qd) : Int := if namB c q = false then 162 else if rdB S q = false then 163 else if twB S q = true then 164 else if gdB c S q = false then 161 else 0
def goP (c : Cd) : St → Nat → List Qd → (Int × Int) × St
  | S, _, [] => ((-1, 0), S)
  | S, k, q :: l => if errB c S q = 0 then goP c (pastP S q) (k + 1) l else (((k : Int), errB c S q), S)
def arwB (pl : Int) (a : Qd) : Bool := inB 1 (pl - 1) a.1 && inB 0 15 a.2.1 && inB 0 (pl - 1) a.2.2.1 && inB 1 3 a.2.2.2
def seenB (l : List Qd) (p b : Int) : Bool := l.any fun d => d.1 == p && d.2.1 == b
def arGo (pl : Int) : List Qd → List Qd → Bool
  | _, [] => true
  | d, a :: l => arwB pl a && !seenB d a.1 a.2.1 && arGo pl (d ++ [a]) l
def arsB (c : Cd) : Bool := arGo c.planes [] c.arrows
def allK (S : St) (n : Nat) : Bool := (List.range n).all fun p => (S.pl p).1
def mostB (c : Cd) (t : Int) : Int := 4611686018427387904 / (2 * c.most + 2) / max t 1
def widB (c : Cd) (t : Int) : Bool := !allB (-(mostB c t)) (mostB c t) c.table || !allB (-(mostB c t)) (mostB c t) c.consts
/-- What Check tells. -/
def chkB (c : Cd) : Int × Int :=
  if rightB c = false then (-1, 160)
  else if arsB c = false then (-1, 161)
  else if (goP c (st0 0) 0 c.cell).1.2 ≠ 0 then (goP c (st0 0) 0 c.cell).1
  else if allK (goP c (st0 0) 0 c.cell).2 c.planes.toNat = false then (-1, 164)
  else if widB c (goP c (st0 0) 0 c.cell).2.top = true then (-1, 165)
  else (-1, 0)

/-- Weights and lists of ways are small. -/
structure Bd (S : St) (n : Nat) : Prop where
  reg : ∀ r, 0 ≤ (S.regs r).weight ∧ (S.regs r).weight ≤ n
  ways : ∀ r, (S.regs r).ways.length ≤ n
  pl : ∀ p, 0 ≤ (S.pl p).2 ∧ (S.pl p).2 ≤ n
  top : 0 ≤ S.top ∧ S.top ≤ n
theorem Bd.start : Bd (st0 0) 0 := ⟨fun _ => ⟨Int.le_refl _, Int.le_refl _⟩, fun _ => Nat.le_refl _, fun _ => ⟨Int.le_refl _, Int.le_refl _⟩, ⟨Int.le_refl _, Int.le_refl _⟩⟩
theorem Bd.mono {S : St} {n m : Nat} (h : Bd S n) (hm : n ≤ m) : Bd S m :=
  ⟨fun r => ⟨(h.reg r).1, by have := (h.reg r).2; omega⟩, fun r => Nat.le_trans (h.ways r) hm, fun r => ⟨(h.pl r).1, by have := (h.pl r).2; omega⟩, ⟨h.top.1, by have := h.top.2; omega⟩⟩
theorem Bd.setR {S : St} {n : Nat} (h : Bd S n) (k : Nat) (x : Rg) (h1 : 0 ≤ x.weight ∧ x.weight ≤ n) (h2 : x.ways.length ≤ n) : Bd (setR S k x) n := by
  refine ⟨fun r => ?_, fun r => ?_, h.pl, h.top⟩
  · show 0 ≤ (updR S.regs k x r).weight ∧ (updR S.regs k x r).weight ≤ n
    unfold updR; split
    · exact h1
    · exact h.reg r
  · show (updR S.regs k x r).ways.length ≤ n
    unfold updR; split
    · exact h2
    · exact h.ways r
theorem Bd.setP {S : St} {n : Nat} (h : Bd S n) (k : Nat) (x : Bool × Int) (h1 : 0 ≤ x.2 ∧ x.2 ≤ n) : Bd (setP S k x) n := by
  refine ⟨h.reg, h.ways, fun r => ?_, h.top⟩
  show 0 ≤ (updP S.pl k x r).2 ∧ (updP S.pl k x r).2 ≤ n
  unfold updP; split
  · exact h1
  · exact h.pl r
theorem Bd.weigh {S : St} {n : Nat} (h : Bd S n) (x : Int) (h1 : x ≤ n) : Bd (weighP S x) n := by
  refine ⟨h.reg, h.ways, h.pl, ?_⟩
  show 0 ≤ max S.top x ∧ max S.top x ≤ n
  have := h.top
  omega
theorem Bd.write {S : St} {n : Nat} (h : Bd S n) (k : Nat) (x : Rg) (h1 : 0 ≤ x.weight ∧ x.weight ≤ n) (h2 : x.ways.length ≤ n) : Bd (writeP S k x) n :=
  (h.setR k { x with wr := true } h1 h2).weigh _ h1.2
theorem Bd.past {S : St} {n : Nat} (h : Bd S n) (q : Qd) : Bd (pastP S q) (n + 1) := by
  have h' := h.mono (Nat.le_succ n)
  unfold pastP
  split
  · exact h'.write _ _ ⟨by simp [rg0], by simp [rg0]; omega⟩ (by simp [rg0])
  split
  · exact h'.write _ _ ⟨by simp, by simp; omega⟩ (by simp)
  split
  · refine h'.write _ _ ?_ ?_
    · unfold loadB; split
      · exact h'.pl _
      · exact ⟨Int.le_refl 0, show (0 : Int) ≤ ((n + 1 : Nat) : Int) by omega⟩
    · unfold loadB; split <;> simp
  split
  · have := h.reg q.2.1.toNat
    refine (h'.setR q.2.1.toNat (addB (S.regs q.2.1.toNat)) ⟨?_, ?_⟩ (h'.ways q.2.1.toNat)).weigh ((S.regs q.2.1.toNat).weight + 1) (by omega)
    · show 0 ≤ (S.regs q.2.1.toNat).weight + 1; omega
    · show (S.regs q.2.1.toNat).weight + 1 ≤ ((n + 1 : Nat) : Int); omega
  split
  · have h1 := h'.reg q.2.1.toNat
    have h2 := h'.reg q.2.2.1.toNat
    have h3 := h.ways q.2.1.toNat
    refine h'.setR _ _ ?_ ?_
    · show 0 ≤ max (S.regs q.2.1.toNat).weight (S.regs q.2.2.1.toNat).weight ∧ max (S.regs q.2.1.toNat).weight (S.regs q.2.2.1.toNat).weight ≤ ((n + 1 : Nat) : Int); omega
    · show ((S.regs q.2.1.toNat).ways ++ [wayB (S.regs q.2.2.1.toNat) q.2.2.2]).length ≤ n + 1; simp; omega
  split
  · exact h'.setP _ _ (h'.reg _)
  · have := h.pl q.2.1.toNat
    exact h'.weigh ((S.pl q.2.1.toNat).2 + 1) (by omega)

theorem goP_take (c : Cd) : ∀ (l : List Qd) (S : St) (k : Nat), (goP c S k l).1.2 = 0 → (goP c S k l).1.1 = -1
  | [], _, _, _ => rfl
  | q :: l, S, k, h => by
    unfold goP at h ⊢
    split
    · rename_i e; rw [if_pos e] at h; exact goP_take c l _ _ h
    · rename_i e; rw [if_neg e] at h; exact absurd h e
/-- What a right code keeps to. -/
structure Rt (c : Cd) : Prop where
  letters : 2 ≤ c.letters ∧ c.letters ≤ 20
  planes : 1 ≤ c.planes ∧ c.planes ≤ 10
  regs : 1 ≤ c.regs ∧ c.regs ≤ 16
  most : 0 ≤ c.most ∧ c.most ≤ 65536
  table : ∀ z ∈ c.table, -1152921504606846976 ≤ z ∧ z ≤ 1152921504606846976
  consts : ∀ z ∈ c.consts, -1152921504606846976 ≤ z ∧ z ≤ 1152921504606846976
  klen : c.consts.length ≤ 100
  clen : c.cell.length ≤ 1000
  cell : ∀ q ∈ c.cell, (1 ≤ q.1 ∧ q.1 ≤ 8) ∧ (0 ≤ q.2.1 ∧ q.2.1 ≤ 65535) ∧ (0 ≤ q.2.2.1 ∧ q.2.2.1 ≤ 65535) ∧ (0 ≤ q.2.2.2 ∧ q.2.2.2 ≤ 65535)
  alen : c.arrows.length ≤ 160
  arrows : ∀ q ∈ c.arrows, (0 ≤ q.1 ∧ q.1 ≤ 65535) ∧ (0 ≤ q.2.1 ∧ q.2.1 ≤ 65535) ∧ (0 ≤ q.2.2.1 ∧ q.2.2.1 ≤ 65535) ∧ (0 ≤ q.2.2.2 ∧ q.2.2.2 ≤ 65535)
theorem rt_of {c : Cd} (h : rightB c = true) : Rt c := by
  simp only [rightB, headB, listsB, cellB, arrowsB, Bool.and_eq_true, decide_eq_true_eq, allB, List.all_eq_true, inB_iff, q4, List.mem_cons, List.not_mem_nil, or_false, forall_eq_or_imp, forall_eq] at h
  obtain ⟨⟨⟨h1, h2⟩, h3⟩, h4⟩ := h
  exact ⟨h1.1.1.1.1.1, h1.1.1.1.1.2, h1.1.1.1.2, h1.1.1.2, h2.1.2, h2.2, h2.1.1.2, h3.1, h3.2, h4.1, h4.2⟩
end Go.Proofs.YtnkfibahkmmnpaaGreat
namespace Go.Proofs.YtnkfibahkmmnpaaGreat
open Go.RowKit

/-- What a register has, or a plane at a cell. -/
structure Ct where
  has : Bool
  mask : Int
  num : Int
def ct0 : Ct := ⟨false, 0, 0⟩
/-- The greatest ends so far. -/
structure En where
  found : Bool
  score : Int
  i : Int
  j : Int
  planes : Nat → Bool
def en0 : En := ⟨false, 0, 0, 0, fun _ => false⟩
/-- A run: registers, the planes' slots by their places, ends, steps. -/
structure Ms where
  regs : Nat → Ct
  slots : Nat → Ct
  ends : En
  steps : Int
def ms0 : Ms := ⟨fun _ => ct0, fun _ => ct0, en0, 0⟩
def updC (f : Nat → Ct) (k : Nat) (x : Ct) : Nat → Ct := fun i => if i = k then x else f i
theorem updC_same (f : Nat → Ct) (k : Nat) (x : Ct) : updC f k x k = x := if_pos rfl
theorem updC_ne (f : Nat → Ct) {k i : Nat} (x : Ct) (h : i ≠ k) : updC f k x i = f i := if_neg h
def placeB (P y p i j : Nat) : Nat := (i * (y + 1) + j) * P + p
theorem place_lt {P x y p i j : Nat} (hp : p < P) (hi : i ≤ x) (hj : j ≤ y) : placeB P y p i j < P * (x + 1) * (y + 1) := by
  unfold placeB
  have h1 : i * (y + 1) + j < (x + 1) * (y + 1) := by
    have : i * (y + 1) ≤ x * (y + 1) := Nat.mul_le_mul_right _ hi
    rw [Nat.add_mul x 1, Nat.one_mul]; omega
  have h2 : (i * (y + 1) + j + 1) * P ≤ (x + 1) * (y + 1) * P := Nat.mul_le_mul_right _ h1
  rw [Nat.add_mul _ 1, Nat.one_mul] at h2
  rw [Nat.mul_assoc P, Nat.mul_comm P]; omega
def inR (n : Int) (m : Nat) : Bool := decide (0 ≤ n) && decide (n < (m : Int))
/-- What a plane has at a cell, or beside all cells. -/
def atB (P x y : Nat) (f : Nat → Ct) (p i j : Int) : Ct :=
  if inR p P && inR i (x + 1) && inR j (y + 1) then f (placeB P y p.toNat i.toNat j.toNat) else ct0
def metB (w : Int) (row col : Bool) : Bool := if w = 1 then row else if w = 2 then col else if w = 3 then row && col else true
def backB (c : Int) : Int × Int := if c = 1 then (1, 1) else if c = 2 then (1, 0) else if c = 3 then (0, 1) else (0, 0)
def bitB (c : Int) : Int := ((2 ^ c.toNat : Nat) : Int)
/-- What a meet makes of both. -/
def metC (a b : Ct) (c : Int) : Ct :=
  if b.has = false then a else if (!a.has || decide (a.num < b.num)) = true then ⟨true, bitB c, b.num⟩ else if a.num = b.num then ⟨a.has, ((a.mask.toNat ||| (2 ^ c.toNat) : Nat) : Int), a.num⟩ else a
def endB (e : En) (p : Nat) (i j n : Int) : En :=
  let e1 : En := if (!e.found || decide (e.score < n)) = true then ⟨true, n, i, j, fun _ => false⟩ else e
  if e1.score = n ∧ e1.i = i ∧ e1.j = j then ⟨e1.found, e1.score, e1.i, e1.j, fun k => if k = p then true else e1.planes k⟩ else e1
/-- One instruction at the cell (i, j). -/
def actB (c : Cd) (x y : List Int) (i j : Nat) (M : Ms) (q : Qd) : Ms :=
  if q.1 = 1 then { M with regs := updC M.regs q.2.1.toNat ct0 }
  else if q.1 = 2 then { M with regs := updC M.regs q.2.1.toNat (if metB q.2.2.2 (decide (i = 0)) (decide (j = 0)) then ⟨true, 0, c.consts.getD q.2.2.1.toNat 0⟩ else ct0) }
  else if q.1 = 3 then
    let f := atB c.planes.toNat x.length y.length M.slots q.2.2.1 ((i : Int) - (backB q.2.2.2).1) ((j : Int) - (backB q.2.2.2).2)
    { M with regs := updC M.regs q.2.1.toNat ⟨f.has, 0, f.num⟩ }
  else if q.1 = 4 then
    let a := M.regs q.2.1.toNat
    { M with regs := if a.has then updC M.regs q.2.1.toNat ⟨a.has, a.mask, wrap64 (a.num + c.consts.getD q.2.2.1.toNat 0)⟩ else M.regs }
  else if q.1 = 5 then
    let a := M.regs q.2.1.toNat
    if i = 0 ∨ j = 0 then { M with regs := updC M.regs q.2.1.toNat ⟨false, a.mask, 0⟩ }
    else { M with regs := if a.has then updC M.regs q.2.1.toNat ⟨a.has, a.mask, wrap64 (a.num + c.table.getD (x.getD (i - 1) 0 * c.letters + y.getD (j - 1) 0).toNat 0)⟩ else M.regs }
  else if q.1 = 6 then { M with regs := updC M.regs q.2.1.toNat (metC (M.regs q.2.1.toNat) (M.regs q.2.2.1.toNat) q.2.2.2) }
  else if q.1 = 7 then
    let b := M.regs q.2.2.1.toNat
    { M with slots := updC M.slots (placeB c.planes.toNat y.length q.2.1.toNat i j) (if b.has then b else ct0) }
  else
    let v := atB c.planes.toNat x.length y.length M.slots q.2.1 i j
    if (v.has && metB q.2.2.2 (decide (i = x.length)) (decide (j = y.length))) = true then { M with ends := endB M.ends q.2.1.toNat i j (wrap64 (v.num + c.consts.getD q.2.2.1.toNat 0)) } else M
/-- All instructions at a cell. -/
def cellM (c : Cd) (x y : List Int) (i j : Nat) (M : Ms) : Ms :=
  let M1 := c.cell.foldl (actB c x y i j) M
  { M1 with steps := wrap64 (M1.steps + (c.cell.length : Int)) }
/-- The cells of a row that are run: from which on, up to which one. -/
def rowLo (c : Cd) (i : Nat) : Nat := (max 0 ((i : Int) + c.lo)).toNat
def rowHi (c : Cd) (y : List Int) (i : Nat) : Int := min (y.length : Int) ((i : Int) + c.hi)
def rowM (c : Cd) (x y : List Int) (i : Nat) (M : Ms) : Ms := (List.range' (rowLo c i) ((rowHi c y i) + 1 - (rowLo c i : Int)).toNat).foldl (fun M j => cellM c x y i j M) M
def runM (c : Cd) (x y : List Int) : Ms := (List.range (x.length + 1)).foldl (fun M i => rowM c x y i M) ms0
def letB (L : Int) (l : List Int) : Bool := l.all fun n => !(decide (n < 0) || decide (L ≤ n))
/-- Why a code can't be run; what Check tells as a number. -/
def refB (e : Int) (c : Cd) (x y : List Int) : Int :=
  if e ≠ 0 then e else if c.most < (x.length : Int) ∨ c.most < (y.length : Int) then 170 else if letB c.letters x = false ∨ letB c.letters y = false then 11
  else if (1048576 : Int) < ((x.length : Int) + 1) * ((y.length : Int) + 1) then 131 else 0
/-- What Best tells. -/
def risB (e : En) : List Int := ((List.range 10).filter e.planes).map Int.ofNat
end Go.Proofs.YtnkfibahkmmnpaaGreat
