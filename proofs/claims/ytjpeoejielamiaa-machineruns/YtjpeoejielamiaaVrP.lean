/-
  What is known of a code's registers and planes, instruction by instruction, in plain values; what Check tells.
-/
import Derived.Test.YtjpeoejielamiaaKz
namespace Go.Proofs.Ytjpeoejielamiaa

/-- What is known of a register; a way is a bit and an origin's three numbers. -/
structure Rg where
  wr : Bool
  kind : Int
  plane : Int
  step : Int
  met : Bool
  ways : List Qd
  weight : Int
/-- What is known of registers and planes, and the greatest weight. -/
structure St where
  regs : Nat → Rg
  pl : Nat → Bool × Int
  top : Int
def rg0 : Rg := ⟨false, 0, 0, 0, false, [], 0⟩
def st0 (t : Int) : St := ⟨fun _ => rg0, fun _ => (false, 0), t⟩
def updR (f : Nat → Rg) (k : Nat) (x : Rg) : Nat → Rg := fun i => if i = k then x else f i
def updP (f : Nat → Bool × Int) (k : Nat) (x : Bool × Int) : Nat → Bool × Int := fun i => if i = k then x else f i
theorem updR_same (f : Nat → Rg) (k : Nat) (x : Rg) : updR f k x k = x := if_pos rfl
theorem updR_ne (f : Nat → Rg) {k i : Nat} (x : Rg) (h : i ≠ k) : updR f k x i = f i := if_neg h
theorem updP_same (f : Nat → Bool × Int) (k : Nat) (x : Bool × Int) : updP f k x k = x := if_pos rfl
theorem updP_ne (f : Nat → Bool × Int) {k i : Nat} (x : Bool × Int) (h : i ≠ k) : updP f k x i = f i := if_neg h
def setR (S : St) (k : Nat) (x : Rg) : St := ⟨updR S.regs k x, S.pl, S.top⟩
def setP (S : St) (k : Nat) (x : Bool × Int) : St := ⟨S.regs, updP S.pl k x, S.top⟩
def weighP (S : St) (n : Int) : St := ⟨S.regs, S.pl, max S.top n⟩
def writeP (S : St) (a : Nat) (r : Rg) : St := weighP (setR S a { r with wr := true }) r.weight
def loadB (S : St) (p c : Int) : Rg := if c = 0 then ⟨false, 3, 0, 0, false, [], (S.pl p.toNat).2⟩ else ⟨false, 2, p, c, false, [], 0⟩
def wayB (x : Rg) (bit : Int) : Qd := if x.met then (bit, 3, 0, 0) else (bit, x.kind, x.plane, x.step)
def meetB (r x : Rg) (bit : Int) : Rg := ⟨r.wr, r.kind, r.plane, r.step, true, r.ways ++ [wayB x bit], max r.weight x.weight⟩
def addB (r : Rg) : Rg := ⟨r.wr, r.kind, r.plane, r.step, r.met, r.ways, r.weight + 1⟩
/-- What a right instruction leaves. -/
def pastP (S : St) (q : Qd) : St :=
  if q.1 = 1 then writeP S q.2.1.toNat rg0
  else if q.1 = 2 then writeP S q.2.1.toNat ⟨false, 1, 0, 0, false, [], 1⟩
  else if q.1 = 3 then writeP S q.2.1.toNat (loadB S q.2.2.1 q.2.2.2)
  else if q.1 = 4 ∨ q.1 = 5 then weighP (setR S q.2.1.toNat (addB (S.regs q.2.1.toNat))) ((S.regs q.2.1.toNat).weight + 1)
  else if q.1 = 6 then setR S q.2.1.toNat (meetB (S.regs q.2.1.toNat) (S.regs q.2.2.1.toNat) q.2.2.2)
  else if q.1 = 7 then setP S q.2.1.toNat (true, (S.regs q.2.2.1.toNat).weight)
  else weighP S ((S.pl q.2.1.toNat).2 + 1)
def limB (c : Cd) (op : Int) : Int × Int × Int :=
  if op = 2 then (c.regs, (c.consts.length : Int), 4)
  else if op = 3 then (c.regs, c.planes, 4)
  else if op = 4 then (c.regs, (c.consts.length : Int), 1)
  else if op = 6 then (c.regs, c.regs, 16)
  else if op = 7 then (c.planes, c.regs, 1)
  else if op = 8 then (c.planes, (c.consts.length : Int), 4)
  else (c.regs, 1, 1)
def namB (c : Cd) (q : Qd) : Bool := decide (q.2.1 < (limB c q.1).1) && decide (q.2.2.1 < (limB c q.1).2.1) && decide (q.2.2.2 < (limB c q.1).2.2)
def rdB (S : St) (q : Qd) : Bool :=
  if q.1 = 3 then !(q.2.2.2 == 0) || (S.pl q.2.2.1.toNat).1
  else if q.1 = 4 ∨ q.1 = 5 then (S.regs q.2.1.toNat).wr
  else if q.1 = 6 then (S.regs q.2.1.toNat).wr && (S.regs q.2.2.1.toNat).wr
  else if q.1 = 7 then (S.regs q.2.2.1.toNat).wr
  else if q.1 = 8 then (S.pl q.2.1.toNat).1
  else true
def twB (S : St) (q : Qd) : Bool := q.1 == 7 && (S.pl q.2.1.toNat).1
def orB (k : Int) : Bool := k == 0 || k == 1
def begB (r : Rg) : Bool := (r.ways.all fun x => orB x.2.1) && orB r.kind
def folB (x a : Qd) : Bool := decide (x.2 = (2, a.2.2.1, a.2.2.2)) && x.1 == a.2.1
def comB (r : Rg) (p : Int) (l : List Qd) : Bool := r.kind == 0 && r.ways.all fun x => l.any fun a => a.1 == p && folB x a
def gdB (c : Cd) (S : St) (q : Qd) : Bool := if q.1 = 7 then (if q.2.1 = 0 then begB (S.regs q.2.2.1.toNat) else comB (S.regs q.2.2.1.toNat) q.2.1 c.arrows) else true
/-- What is wrong with an instruction. -/
def errB (c : Cd) (S : St) (q : Qd) : Int := if namB c q = false then 162 else if rdB S q = false then 163 else if twB S q = true then 164 else if gdB c S q = false then 161 else 0
def goP (c : Cd) : St → Nat → List Qd → (Int × Int) × St
  | S, _, [] => ((-1, 0), S)
  | S, k, q :: l => if errB c S q = 0 then goP c (pastP S q) (k + 1) l else (((k : Int), errB c S q), S)
def arwB (pl : Int) (a : Qd) : Bool := inB 1 (pl - 1) a.1 && inB 0 15 a.2.1 && inB 0 (pl - 1) a.2.2.1 && inB 1 3 a.2.2.2
def seenB (l : List Qd) (p b : Int) : Bool := l.any fun d => d.1 == p && d.2.1 == b
def arGo (pl : Int) : List Qd → List Qd → Bool
  | _, [] => true
  | d, a :: l => arwB pl a && !seenB d a.1 a.2.1 && arGo pl (d ++ [a]) l
def arsB (c : Cd) : Bool := arGo c.planes [] c.arrows
def allK (S : St) (n : Nat) : Bool := (List.range n).all fun p => (S.pl p).1
def mostB (c : Cd) (t : Int) : Int := 4611686018427387904 / (2 * c.most + 2) / max t 1
def widB (c : Cd) (t : Int) : Bool := !allB (-(mostB c t)) (mostB c t) c.table || !allB (-(mostB c t)) (mostB c t) c.consts
/-- What Check tells. -/
def chkB (c : Cd) : Int × Int :=
  if rightB c = false then (-1, 160)
  else if arsB c = false then (-1, 161)
  else if (goP c (st0 0) 0 c.cell).1.2 ≠ 0 then (goP c (st0 0) 0 c.cell).1
  else if allK (goP c (st0 0) 0 c.cell).2 c.planes.toNat = false then (-1, 164)
  else if widB c (goP c (st0 0) 0 c.cell).2.top = true then (-1, 165)
  else (-1, 0)

/-- Weights and lists of ways are small. -/
structure Bd (S : St) (n : Nat) : Prop where
  reg : ∀ r, 0 ≤ (S.regs r).weight ∧ (S.regs r).weight ≤ n
  ways : ∀ r, (S.regs r).ways.length ≤ n
  pl : ∀ p, 0 ≤ (S.pl p).2 ∧ (S.pl p).2 ≤ n
  top : 0 ≤ S.top ∧ S.top ≤ n
theorem Bd.start : Bd (st0 0) 0 := ⟨fun _ => ⟨Int.le_refl _, Int.le_refl _⟩, fun _ => Nat.le_refl _, fun _ => ⟨Int.le_refl _, Int.le_refl _⟩, ⟨Int.le_refl _, Int.le_refl _⟩⟩
theorem Bd.mono {S : St} {n m : Nat} (h : Bd S n) (hm : n ≤ m) : Bd S m :=
  ⟨fun r => ⟨(h.reg r).1, by have := (h.reg r).2; omega⟩, fun r => Nat.le_trans (h.ways r) hm, fun r => ⟨(h.pl r).1, by have := (h.pl r).2; omega⟩, ⟨h.top.1, by have := h.top.2; omega⟩⟩
theorem Bd.setR {S : St} {n : Nat} (h : Bd S n) (k : Nat) (x : Rg) (h1 : 0 ≤ x.weight ∧ x.weight ≤ n) (h2 : x.ways.length ≤ n) : Bd (setR S k x) n := by
  refine ⟨fun r => ?_, fun r => ?_, h.pl, h.top⟩
  · show 0 ≤ (updR S.regs k x r).weight ∧ (updR S.regs k x r).weight ≤ n
    unfold updR; split
    · exact h1
    · exact h.reg r
  · show (updR S.regs k x r).ways.length ≤ n
    unfold updR; split
    · exact h2
    · exact h.ways r
theorem Bd.setP {S : St} {n : Nat} (h : Bd S n) (k : Nat) (x : Bool × Int) (h1 : 0 ≤ x.2 ∧ x.2 ≤ n) : Bd (setP S k x) n := by
  refine ⟨h.reg, h.ways, fun r => ?_, h.top⟩
  show 0 ≤ (updP S.pl k x r).2 ∧ (updP S.pl k x r).2 ≤ n
  unfold updP; split
  · exact h1
  · exact h.pl r
theorem Bd.weigh {S : St} {n : Nat} (h : Bd S n) (x : Int) (h1 : x ≤ n) : Bd (weighP S x) n := by
  refine ⟨h.reg, h.ways, h.pl, ?_⟩
  show 0 ≤ max S.top x ∧ max S.top x ≤ n
  have := h.top
  omega
theorem Bd.write {S : St} {n : Nat} (h : Bd S n) (k : Nat) (x : Rg) (h1 : 0 ≤ x.weight ∧ x.weight ≤ n) (h2 : x.ways.length ≤ n) : Bd (writeP S k x) n :=
  (h.setR k { x with wr := true } h1 h2).weigh _ h1.2
theorem Bd.past {S : St} {n : Nat} (h : Bd S n) (q : Qd) : Bd (pastP S q) (n + 1) := by
  have h' := h.mono (Nat.le_succ n)
  unfold pastP
  split
  · exact h'.write _ _ ⟨by simp [rg0], by simp [rg0]; omega⟩ (by simp [rg0])
  split
  · exact h'.write _ _ ⟨by simp, by simp; omega⟩ (by simp)
  split
  · refine h'.write _ _ ?_ ?_
    · unfold loadB; split
      · exact h'.pl _
      · exact ⟨Int.le_refl 0, show (0 : Int) ≤ ((n + 1 : Nat) : Int) by omega⟩
    · unfold loadB; split <;> simp
  split
  · have := h.reg q.2.1.toNat
    refine (h'.setR q.2.1.toNat (addB (S.regs q.2.1.toNat)) ⟨?_, ?_⟩ (h'.ways q.2.1.toNat)).weigh ((S.regs q.2.1.toNat).weight + 1) (by omega)
    · show 0 ≤ (S.regs q.2.1.toNat).weight + 1; omega
    · show (S.regs q.2.1.toNat).weight + 1 ≤ ((n + 1 : Nat) : Int); omega
  split
  · have h1 := h'.reg q.2.1.toNat
    have h2 := h'.reg q.2.2.1.toNat
    have h3 := h.ways q.2.1.toNat
    refine h'.setR _ _ ?_ ?_
    · show 0 ≤ max (S.regs q.2.1.toNat).weight (S.regs q.2.2.1.toNat).weight ∧ max (S.regs q.2.1.toNat).weight (S.regs q.2.2.1.toNat).weight ≤ ((n + 1 : Nat) : Int); omega
    · show ((S.regs q.2.1.toNat).ways ++ [wayB (S.regs q.2.2.1.toNat) q.2.2.2]).length ≤ n + 1; simp; omega
  split
  · exact h'.setP _ _ (h'.reg _)
  · have := h.pl q.2.1.toNat
    exact h'.weigh ((S.pl q.2.1.toNat).2 + 1) (by omega)

theorem goP_take (c : Cd) : ∀ (l : List Qd) (S : St) (k : Nat), (goP c S k l).1.2 = 0 → (goP c S k l).1.1 = -1
  | [], _, _, _ => rfl
  | q :: l, S, k, h => by
    unfold goP at h ⊢
    split
    · rename_i e; rw [if_pos e] at h; exact goP_take c l _ _ h
    · rename_i e; rw [if_neg e] at h; exact absurd h e
/-- What a right code keeps to. -/
structure Rt (c : Cd) : Prop where
  letters : 2 ≤ c.letters ∧ c.letters ≤ 20
  planes : 1 ≤ c.planes ∧ c.planes ≤ 10
  regs : 1 ≤ c.regs ∧ c.regs ≤ 16
  most : 0 ≤ c.most ∧ c.most ≤ 65536
  table : ∀ z ∈ c.table, -1152921504606846976 ≤ z ∧ z ≤ 1152921504606846976
  consts : ∀ z ∈ c.consts, -1152921504606846976 ≤ z ∧ z ≤ 1152921504606846976
  klen : c.consts.length ≤ 100
  clen : c.cell.length ≤ 1000
  cell : ∀ q ∈ c.cell, (1 ≤ q.1 ∧ q.1 ≤ 8) ∧ (0 ≤ q.2.1 ∧ q.2.1 ≤ 65535) ∧ (0 ≤ q.2.2.1 ∧ q.2.2.1 ≤ 65535) ∧ (0 ≤ q.2.2.2 ∧ q.2.2.2 ≤ 65535)
  alen : c.arrows.length ≤ 160
  arrows : ∀ q ∈ c.arrows, (0 ≤ q.1 ∧ q.1 ≤ 65535) ∧ (0 ≤ q.2.1 ∧ q.2.1 ≤ 65535) ∧ (0 ≤ q.2.2.1 ∧ q.2.2.1 ≤ 65535) ∧ (0 ≤ q.2.2.2 ∧ q.2.2.2 ≤ 65535)
theorem rt_of {c : Cd} (h : rightB c = true) : Rt c := by
  simp only [rightB, headB, listsB, cellB, arrowsB, Bool.and_eq_true, decide_eq_true_eq, allB, List.all_eq_true, inB_iff, q4, List.mem_cons, List.not_mem_nil, or_false, forall_eq_or_imp, forall_eq] at h
  obtain ⟨⟨⟨h1, h2⟩, h3⟩, h4⟩ := h
  exact ⟨h1.1.1.1.1.1, h1.1.1.1.1.2, h1.1.1.1.2, h1.1.1.2, h2.1.2, h2.2, h2.1.1.2, h3.1, h3.2, h4.1, h4.2⟩
end Go.Proofs.Ytjpeoejielamiaa
