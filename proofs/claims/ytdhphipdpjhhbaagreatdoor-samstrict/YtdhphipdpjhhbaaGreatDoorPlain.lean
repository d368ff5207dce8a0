/-
  Columns and runs as plain lists: which runs are right, the runs of columns and the columns of runs, how they are written and read, what they take.
-/
import Derived.Lib.ItoaNum
namespace Go.Proofs.YtdhphipdpjhhbaaGreatDoor

/-- A run: its Op, its Len. -/
abbrev Rn := UInt8 × Int
def isColB (c : UInt8) : Bool := c == 77 || (c == 68 || c == 73)
def isOpB (c : UInt8) : Bool := isColB c || c == 83

/-- What a run leaves of the columns that may still come, or nothing if it is not right: p is the Op ahead of it. -/
def stepR (p : Option UInt8) (left : Int) (r : Rn) (last : Bool) : Option Int :=
  if isOpB r.1 = false ∨ r.2 < 1 ∨ p = some r.1 then none
  else if r.1 = 83 then (if 65536 < r.2 ∨ (p ≠ none ∧ last = false) then none else some left)
  else if left < r.2 then none else some (left - r.2)
def rgo (p : Option UInt8) (left : Int) : List Rn → Bool
  | [] => true
  | r :: l => match stepR p left r (decide (l = [])) with
    | none => false
    | some left' => rgo (some r.1) left' l
def rightB (l : List Rn) : Bool := rgo none 131072 l

/-- One column more behind runs. -/
def lenB (l : List Rn) (c : UInt8) : List Rn :=
  match l.getLast? with
  | none => [(c, 1)]
  | some r => if r.1 = c then l.dropLast ++ [(c, r.2 + 1)] else l ++ [(c, 1)]
def runsB (s : List UInt8) : List Rn := s.foldl lenB []
def ofA (s : List UInt8) : List Rn × Int :=
  if 131072 < s.length then ([], 2) else if s.all isColB then (runsB s, 0) else ([], 40)

def colsB (l : List Rn) : List UInt8 := l.flatMap fun r => if r.1 = 83 then [] else List.replicate r.2.toNat r.1
def colsA (l : List Rn) : List UInt8 × Int := if rightB l then (colsB l, 0) else ([], 40)
def textB (l : List Rn) : List UInt8 := l.flatMap fun r => Lib.decDigits r.2.toNat ++ [r.1]
def textA (l : List Rn) : List UInt8 × Int := if rightB l then (if l = [] then [42] else textB l, 0) else ([], 40)
def refB (l : List Rn) : Int := l.foldl (fun x r => if r.1 = 77 ∨ r.1 = 68 then x + r.2 else x) 0
def readB (l : List Rn) : Int := l.foldl (fun y r => if r.1 = 68 then y else y + r.2) 0
def spansA (l : List Rn) : Int × Int × Int := if rightB l then (refB l, readB l, 0) else (0, 0, 40)

def isDig (c : UInt8) : Bool := decide (48 ≤ c.toNat) && decide (c.toNat ≤ 57)
/-- The numbers of a text, each with the byte behind it. -/
def tokGo (acc : List Rn) (n : Nat) : List UInt8 → Option (List Rn)
  | [] => if n = 0 then some acc else none
  | c :: r =>
    if isDig c then (if n = 0 ∧ c = 48 then none else tokGo acc (10 * n + (c.toNat - 48)) r)
    else if n = 0 then none else tokGo (acc ++ [(c, (n : Int))]) 0 r
def finA : Option (List Rn) → List Rn × Int
  | none => ([], 40)
  | some l => if l ≠ [] ∧ rightB l = true then (l, 0) else ([], 40)
def parseA (s : List UInt8) : List Rn × Int := if s = [42] then ([], 0) else finA (tokGo [] 0 s)

/-! Right runs -/
theorem stepR_some {p : Option UInt8} {left : Int} {r : Rn} {last : Bool} {left' : Int} (h : stepR p left r last = some left') :
    isOpB r.1 = true ∧ 1 ≤ r.2 ∧ p ≠ some r.1 ∧ ((r.1 = 83 ∧ r.2 ≤ 65536 ∧ (p = none ∨ last = true) ∧ left' = left) ∨ (r.1 ≠ 83 ∧ r.2 ≤ left ∧ left' = left - r.2)) := by
  unfold stepR at h
  split at h
  · cases h
  · rename_i h1
    simp only [not_or, Bool.not_eq_false, Int.not_lt] at h1
    refine ⟨h1.1, h1.2.1, h1.2.2, ?_⟩
    split at h
    · rename_i h2
      split at h
      · cases h
      · rename_i h3
        simp at h3
        cases h
        refine .inl ⟨h2, h3.1, ?_, rfl⟩
        rcases p with _ | p
        · exact .inl rfl
        · exact .inr (h3.2 (by simp))
    · rename_i h2
      split at h
      · cases h
      · cases h
        exact .inr ⟨h2, by omega, rfl⟩
theorem stepR_none_of {p : Option UInt8} {left : Int} {r : Rn} {last : Bool} (hl : left ≤ 131072) (h : isOpB r.1 = false ∨ 131072 < r.2) : stepR p left r last = none := by
  rcases hs : stepR p left r last with _ | left'
  · rfl
  · have := stepR_some hs
    rcases h with h | h
    · rw [h] at this; exact absurd this.1 (by decide)
    · rcases this.2.2.2 with h2 | h2 <;> omega

/-- A list of runs that no runs behind it make right. -/
def Bad (l : List Rn) : Prop := ∀ m, rightB (l ++ m) = false
theorem rgo_bad (r : Rn) (m : List Rn) (h : isOpB r.1 = false ∨ 131072 < r.2) : ∀ (l : List Rn) (p : Option UInt8) (left : Int), left ≤ 131072 → rgo p left (l ++ r :: m) = false
  | [], p, left, hl => by
    simp only [List.nil_append, rgo]
    rw [stepR_none_of hl h]
  | x :: l, p, left, hl => by
    simp only [List.cons_append, rgo]
    rcases hs : stepR p left x (decide (l ++ r :: m = [])) with _ | left'
    · rfl
    · have h1 := stepR_some hs
      exact rgo_bad r m h l _ _ (by rcases h1.2.2.2 with h2 | h2 <;> omega)
theorem bad_run (l : List Rn) (r : Rn) (h : isOpB r.1 = false ∨ 131072 < r.2) : Bad (l ++ [r]) := fun m => by
  rw [List.append_assoc]
  exact rgo_bad r m h l none 131072 (Int.le_refl _)
theorem Bad.more {l : List Rn} (h : Bad l) (m : List Rn) : Bad (l ++ m) := fun k => by rw [List.append_assoc]; exact h _
theorem Bad.right {l : List Rn} (h : Bad l) : rightB l = false := by have := h []; rwa [List.append_nil] at this
/-- Right runs are few. -/
theorem rgo_few : ∀ (l : List Rn) (p : Option UInt8) (left : Int), 0 ≤ left → rgo p left l = true → (l.length : Int) ≤ left + (if p = none then 2 else 1)
  | [], p, left, hl, _ => by split <;> simp <;> omega
  | r :: l, p, left, hl, h => by
    simp only [rgo] at h
    rcases hs : stepR p left r (decide (l = [])) with _ | left'
    · rw [hs] at h; cases h
    · rw [hs] at h
      have h1 := stepR_some hs
      have ih := rgo_few l (some r.1) left' (by rcases h1.2.2.2 with h2 | h2 <;> omega) h
      simp only [List.length_cons] at ih ⊢
      simp at ih
      rcases h1.2.2.2 with ⟨_, _, hp, rfl⟩ | ⟨_, h3, rfl⟩
      · rcases hp with rfl | hp
        · simp; omega
        · simp at hp
          subst hp
          split <;> simp <;> omega
      · split <;> omega
theorem right_few {l : List Rn} (h : rightB l = true) : l.length ≤ 131074 := by
  have := rgo_few l none 131072 (by decide) h
  simp at this
  omega
theorem bad_many (l : List Rn) (h : 131074 < l.length) : Bad l := fun m => by
  cases hr : rightB (l ++ m) with
  | false => rfl
  | true => have := right_few hr; simp at this; omega
theorem rgo_each : ∀ (l : List Rn) (p : Option UInt8) (left : Int), left ≤ 131072 → rgo p left l = true → ∀ r ∈ l, isOpB r.1 = true ∧ 1 ≤ r.2 ∧ r.2 ≤ 131072
  | [], _, _, _, _ => fun _ h => by cases h
  | r :: l, p, left, hl, h => fun x hx => by
    simp only [rgo] at h
    rcases hs : stepR p left r (decide (l = [])) with _ | left'
    · rw [hs] at h; cases h
    · rw [hs] at h
      have h1 := stepR_some hs
      cases hx with
      | head => exact ⟨h1.1, h1.2.1, by rcases h1.2.2.2 with h2 | h2 <;> omega⟩
      | tail _ hx => exact rgo_each l (some r.1) left' (by rcases h1.2.2.2 with h2 | h2 <;> omega) h x hx
theorem right_each {l : List Rn} (h : rightB l = true) : ∀ r ∈ l, isOpB r.1 = true ∧ 1 ≤ r.2 ∧ r.2 ≤ 131072 := rgo_each l none 131072 (Int.le_refl _) h

/-! Reading -/
theorem tok_bad : ∀ (s : List UInt8) (acc : List Rn) (n : Nat), Bad acc → finA (tokGo acc n s) = ([], 40)
  | [], acc, n, h => by
    unfold tokGo
    split
    · simp [finA, h.right]
    · rfl
  | c :: s, acc, n, h => by
    unfold tokGo
    split
    · split
      · rfl
      · exact tok_bad s acc _ h
    · split
      · rfl
      · exact tok_bad s _ _ (h.more _)
theorem tok_great : ∀ (s : List UInt8) (acc : List Rn) (n : Nat), 131072 < n → finA (tokGo acc n s) = ([], 40)
  | [], acc, n, h => by
    unfold tokGo
    rw [if_neg (by omega)]
    rfl
  | c :: s, acc, n, h => by
    unfold tokGo
    split
    · split
      · rfl
      · exact tok_great s acc _ (by omega)
    · rw [if_neg (by omega)]
      exact tok_bad s _ _ (bad_run _ _ (.inr (by show (131072 : Int) < (n : Int); omega)))
end Go.Proofs.YtdhphipdpjhhbaaGreatDoor
