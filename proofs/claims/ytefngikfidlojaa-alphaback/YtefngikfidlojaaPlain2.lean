/-
  Plain facts, with no program in sight: numbers of letters, texts as numbers and back, groups put together.
-/
import Derived.Test.YtefngikfidlojaaPlain
import GoSem.Claim
namespace Go.Proofs.Ytefngikfidlojaa

/-- alpha.capital. -/
def capOf (c : Int) : Int := if 97 ≤ c ∧ c ≤ 122 then c - 32 else c
/-- helixref01.Capital. -/
def capRef (c : Int) : Int := if 97 ≤ c ∧ c ≤ 122 then c - 32 else if 65 ≤ c ∧ c ≤ 90 then c else 0
def isCap (c : Int) : Bool := decide (65 ≤ c) && decide (c ≤ 90)

theorem capOf_range (c : Int) (h0 : 0 ≤ c) (h1 : c ≤ 255) : 0 ≤ capOf c ∧ capOf c ≤ 255 := by
  unfold capOf; split <;> omega
theorem capRef_range (c : Int) (h0 : 0 ≤ c) (h1 : c ≤ 255) : 0 ≤ capRef c ∧ capRef c ≤ 255 := by
  unfold capRef; split
  · omega
  · split <;> omega

/-- The number of a byte among letters. -/
def codeOf (l : List UInt8) (c : Int) : Int := Lib.indexByte l (capOf c).toNat.toUInt8
/-- alpha.Code. -/
def codeB (l : List UInt8) (c : Int) : Int := if rightB l = true then codeOf l c else -1

theorem toUInt8_toNat (c : Int) (h0 : 0 ≤ c) (h1 : c ≤ 255) : (c.toNat.toUInt8.toNat : Int) = c := by
  obtain ⟨n, rfl⟩ := Int.eq_ofNat_of_zero_le h0
  simp only [Int.toNat_natCast, Nat.toUInt8, UInt8.toNat_ofNat']
  omega

/-- What is no letter is in no alphabet. -/
theorem codeOf_ref (l : List UInt8) (c : Int) (h0 : 0 ≤ c) (h1 : c ≤ 255) (hr : rightB l = true) :
    (if capRef c = 0 then (-1 : Int) else Lib.indexByte l (capRef c).toNat.toUInt8) = codeOf l c := by
  unfold codeOf
  by_cases ha : 97 ≤ c ∧ c ≤ 122
  · have e1 : capRef c = c - 32 := by unfold capRef; rw [if_pos ha]
    have e2 : capOf c = c - 32 := by unfold capOf; rw [if_pos ha]
    rw [e1, e2, if_neg (by omega)]
  · have e2 : capOf c = c := by unfold capOf; rw [if_neg ha]
    by_cases hb : 65 ≤ c ∧ c ≤ 90
    · have e1 : capRef c = c := by unfold capRef; rw [if_neg ha, if_pos hb]
      rw [e1, e2, if_neg (by omega)]
    · have e1 : capRef c = 0 := by unfold capRef; rw [if_neg ha, if_neg hb]
      rw [e1, e2, if_pos rfl]
      refine (indexByte_none _ _ ?_).symm
      intro hm
      have := rightB_cap l hr _ hm
      have hz := toUInt8_toNat c h0 h1
      omega

/-- The first place of a text that is no letter's; the text's length, if there is none. -/
def badAt (l s : List UInt8) : Nat := (s.takeWhile fun c => decide (0 ≤ codeOf l (c.toNat : Int))).length
/-- alpha.Encode: the numbers, the place, the error. -/
def encB (l s : List UInt8) : List Int × Nat × Int :=
  if rightB l = false then ([], 0, 10)
  else if 65536 < s.length then ([], 0, 2)
  else if badAt l s < s.length then ([], badAt l s, 11)
  else (s.map fun c => codeOf l (c.toNat : Int), 0, 0)

theorem takeWhile_stop {α : Type} (p : α → Bool) : ∀ (s : List α) (k : Nat) (c : α), (∀ j x, j < k → s[j]? = some x → p x = true) → s[k]? = some c → p c = false → (s.takeWhile p).length = k
  | [], k, c, _, h, _ => by simp at h
  | b :: s, 0, c, _, h, hp => by
    have : b = c := by simpa using h
    subst this
    simp [hp]
  | b :: s, k + 1, c, hall, h, hp => by
    have hb : p b = true := hall 0 b (by omega) rfl
    have ih := takeWhile_stop p s k c (fun j x hj hx => hall (j + 1) x (by omega) (by simpa using hx)) (by simpa using h) hp
    simp [hb, ih]
theorem takeWhile_full {α : Type} (p : α → Bool) : ∀ (s : List α), (∀ j x, j < s.length → s[j]? = some x → p x = true) → (s.takeWhile p).length = s.length
  | [], _ => rfl
  | b :: s, hall => by
    have hb : p b = true := hall 0 b (by simp) rfl
    have ih := takeWhile_full p s (fun j x hj hx => hall (j + 1) x (by simp; omega) (by simpa using hx))
    simp [hb, ih]

/-- A row that is filled up to k. -/
def filled (f : Nat → Value) (z : Value) (n k : Nat) : List Value := (List.range n).map fun j => if j < k then f j else z
theorem filled_length (f : Nat → Value) (z : Value) (n k : Nat) : (filled f z n k).length = n := by simp [filled]
theorem filled_zero (f : Nat → Value) (z : Value) (n : Nat) : filled f z n 0 = List.replicate n z := by
  apply List.ext_getElem
  · simp [filled]
  · intro i h1 h2; simp [filled]
theorem filled_all (f : Nat → Value) (z : Value) (n k : Nat) (h : n ≤ k) : filled f z n k = (List.range n).map f := by
  unfold filled
  apply List.map_congr_left
  intro j hj
  rw [if_pos (by have := List.mem_range.1 hj; omega)]
theorem filled_set (f : Nat → Value) (z : Value) (n k : Nat) (u : Value) (hu : u = f k) : (filled f z n k).set k u = filled f z n (k + 1) := by
  subst hu
  apply List.ext_getElem
  · simp [filled]
  · intro i h1 h2
    rw [List.getElem_set]
    simp only [filled, List.getElem_map, List.getElem_range]
    by_cases e : k = i
    · subst e; simp
    · rw [if_neg e]
      by_cases hi : i < k
      · rw [if_pos hi, if_pos (by omega)]
      · rw [if_neg hi, if_neg (by omega)]

/-- alpha.Decode: the text, the error. -/
def isNum (l : List UInt8) (n : Int) : Bool := decide (0 ≤ n) && decide (n < (l.length : Int))
def decText (l : List UInt8) (zs : List Int) : List UInt8 := zs.map fun n => l.getD n.toNat 0
def decB (l : List UInt8) (zs : List Int) : List UInt8 × Int :=
  if rightB l = false then ([], 10)
  else if 65536 < zs.length then ([], 2)
  else if zs.all (isNum l) = true then (decText l zs, 0)
  else ([], 11)

/-- alpha.Add: the letters, the error. -/
def capU (c : UInt8) : UInt8 := (capOf (c.toNat : Int)).toNat.toUInt8
def addB (gs : List (List UInt8)) : List UInt8 × Int :=
  if rightB (gs.flatten.map capU) = true then (gs.flatten.map capU, 0) else ([], 10)
end Go.Proofs.Ytefngikfidlojaa
