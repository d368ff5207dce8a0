/-
  Files of reads as plain lists of bytes: lines, titles, what is read, what is written.
-/
import Derived.Lib.Bytealg
namespace Go.Proofs.Ytcpoiaclicmmmaa

def isLetB (c : UInt8) : Bool := (decide (65 ≤ c.toNat) && decide (c.toNat ≤ 90)) || (decide (97 ≤ c.toNat) && decide (c.toNat ≤ 122))
def inB (lo hi : Nat) (c : UInt8) : Bool := decide (lo ≤ c.toNat) && decide (c.toNat ≤ hi)
def letsB (l : List UInt8) : Bool := l.all isLetB
def allIn (lo hi : Nat) (l : List UInt8) : Bool := l.all (inB lo hi)
def hasB (c : UInt8) (l : List UInt8) : Bool := decide (c ∈ l)
def headOkB (l : List UInt8) : Bool := decide (l.head? ≠ some 64) && (decide (l.head? ≠ some 42) && decide (l.head? ≠ some 61))
def nameB (l : List UInt8) : Bool := decide (l ≠ []) && (decide (l.length ≤ 64) && (allIn 33 126 l && headOkB l))
def noteB (l : List UInt8) : Bool := decide (l.length ≤ 64) && (allIn 32 126 l && decide (l.head? ≠ some 32))
/-- What stands ahead of the first byte c, and what stands behind it. -/
def headB (c : UInt8) (l : List UInt8) : List UInt8 := l.takeWhile (· != c)
def tailB (c : UInt8) (l : List UInt8) : List UInt8 := (l.dropWhile (· != c)).tail
def titleOkB (l : List UInt8) : Bool := nameB (headB 32 l) && (noteB (tailB 32 l) && !(hasB 32 l && decide (tailB 32 l = [])))
def titleB (l : List UInt8) : Option (List UInt8 × List UInt8) := if titleOkB l then some (headB 32 l, tailB 32 l) else none
def joinB (name note : List UInt8) : List UInt8 := if note = [] then name else name ++ 32 :: note
def basesB (l : List UInt8) : Bool := decide (l ≠ []) && (decide (l.length ≤ 65536) && letsB l)

/-- A line without the byte 13 at its end. -/
def trimB (l : List UInt8) : List UInt8 := if l.getLast? = some 13 then l.dropLast else l
def linesGo (cur : List UInt8) : List UInt8 → List (List UInt8)
  | [] => if cur = [] then [] else [trimB cur]
  | c :: r => if c = 10 then trimB cur :: linesGo [] r else linesGo (cur ++ [c]) r
def linesB (l : List UInt8) : List (List UInt8) := linesGo [] l

/-- A read: its name, its note, its letters, its signs. -/
abbrev Pr := List UInt8 × List UInt8 × List UInt8 × List UInt8
def signsB (l : List UInt8) : Bool := allIn 33 126 l

/-- Where a reader stands: between reads, or behind a read's first, second, third line; its title, its letters. -/
def Ph : Type := Option (List UInt8 × Option (List UInt8 × Bool))
def Ph.p0 : Ph := none
def Ph.p1 (t : List UInt8) : Ph := some (t, none)
def Ph.p2 (t b : List UInt8) : Ph := some (t, some (b, false))
def Ph.p3 (t b : List UInt8) : Ph := some (t, some (b, true))
theorem Ph.elim {motive : Ph → Prop} (p0 : motive .p0) (p1 : ∀ t, motive (.p1 t)) (p2 : ∀ t b, motive (.p2 t b)) (p3 : ∀ t b, motive (.p3 t b)) (ph : Ph) : motive ph :=
  match (ph : Option (List UInt8 × Option (List UInt8 × Bool))) with
  | none => p0
  | some (t, none) => p1 t
  | some (t, some (b, false)) => p2 t b
  | some (t, some (b, true)) => p3 t b
def Ph.inside (ph : Ph) : Bool := Option.isSome (ph : Option (List UInt8 × Option (List UInt8 × Bool)))
@[simp] theorem Ph.inside_p0 : Ph.inside .p0 = false := rfl
@[simp] theorem Ph.inside_p1 (t : List UInt8) : Ph.inside (.p1 t) = true := rfl
@[simp] theorem Ph.inside_p2 (t b : List UInt8) : Ph.inside (.p2 t b) = true := rfl
@[simp] theorem Ph.inside_p3 (t b : List UInt8) : Ph.inside (.p3 t b) = true := rfl
def firstB (n : Nat) (l : List UInt8) : Bool := decide (l.head? = some 64) && (titleOkB l.tail && decide (n < 256))
def markB (t l : List UInt8) : Bool := decide (l = [43]) || decide (l = 43 :: t)
def lastB (b l : List UInt8) : Bool := decide (l.length = b.length) && signsB l
def readOf (t b q : List UInt8) : Pr := (headB 32 t, tailB 32 t, b, q)
/-- The reads so far, the last one first, and where the reader stands: what a line does. -/
def stepQ (st : List Pr) (ph : Ph) (l : List UInt8) : Option (List Pr × Ph) :=
  match (ph : Option (List UInt8 × Option (List UInt8 × Bool))) with
  | none => if l = [] then some (st, .p0) else if firstB st.length l then some (st, .p1 l.tail) else none
  | some (t, none) => if basesB l then some (st, .p2 t l) else none
  | some (t, some (b, false)) => if markB t l then some (st, .p3 t b) else none
  | some (t, some (b, true)) => if lastB b l then some (readOf t b l :: st, .p0) else none
def goQ (st : List Pr) (ph : Ph) (k : Nat) : List (List UInt8) → List Pr × Nat × Nat
  | [] => if ph.inside then ([], k + 1, 30) else (st.reverse, 0, 0)
  | l :: ls => match stepQ st ph l with
    | none => ([], k + 1, 30)
    | some s => goQ s.1 s.2 (k + 1) ls
def parseQ (t : List UInt8) : List Pr × Nat × Nat := if 1048576 < t.length then ([], 0, 2) else goQ [] .p0 0 (linesB t)

/-! Lines -/
theorem headB_nil (c : UInt8) : headB c [] = [] := rfl
theorem tailB_nil (c : UInt8) : tailB c [] = [] := rfl
theorem headB_cons_eq (c : UInt8) (r : List UInt8) : headB c (c :: r) = [] := by simp [headB]
theorem tailB_cons_eq (c : UInt8) (r : List UInt8) : tailB c (c :: r) = r := by simp [tailB]
theorem headB_cons_ne {c d : UInt8} (h : d ≠ c) (r : List UInt8) : headB c (d :: r) = d :: headB c r := by simp [headB, h]
theorem tailB_cons_ne {c d : UInt8} (h : d ≠ c) (r : List UInt8) : tailB c (d :: r) = tailB c r := by simp [tailB, h]
theorem headB_not_mem {c : UInt8} : ∀ {l : List UInt8}, c ∉ l → headB c l = l
  | [], _ => rfl
  | d :: r, h => by
    have h1 : d ≠ c := fun e => h (by simp [e])
    rw [headB_cons_ne h1, headB_not_mem (fun hm => h (List.mem_cons_of_mem _ hm))]
theorem tailB_not_mem {c : UInt8} : ∀ {l : List UInt8}, c ∉ l → tailB c l = []
  | [], _ => rfl
  | d :: r, h => by
    have h1 : d ≠ c := fun e => h (by simp [e])
    rw [tailB_cons_ne h1, tailB_not_mem (fun hm => h (List.mem_cons_of_mem _ hm))]
theorem head_tail_mem {c : UInt8} : ∀ {l : List UInt8}, c ∈ l → l = headB c l ++ c :: tailB c l
  | d :: r, h => by
    by_cases h1 : d = c
    · subst h1; rw [headB_cons_eq, tailB_cons_eq]; rfl
    · rw [headB_cons_ne h1, tailB_cons_ne h1, List.cons_append, ← head_tail_mem ((List.mem_cons.1 h).resolve_left fun e => h1 e.symm)]
theorem headB_free (c : UInt8) : ∀ (l : List UInt8), c ∉ headB c l
  | [] => by simp [headB]
  | d :: r => by
    by_cases h1 : d = c
    · subst h1; simp [headB_cons_eq]
    · rw [headB_cons_ne h1]
      intro hm
      rcases List.mem_cons.1 hm with e | e
      · exact h1 e.symm
      · exact headB_free c r e
theorem linesGo_mem : ∀ (l cur : List UInt8), 10 ∈ l → linesGo cur l = trimB (cur ++ headB 10 l) :: linesGo [] (tailB 10 l)
  | d :: r, cur, h => by
    by_cases h1 : d = 10
    · subst h1; rw [headB_cons_eq, tailB_cons_eq]; simp [linesGo]
    · rw [headB_cons_ne h1, tailB_cons_ne h1]
      show (if d = 10 then _ else _) = _
      rw [if_neg h1, linesGo_mem r (cur ++ [d]) ((List.mem_cons.1 h).resolve_left fun e => h1 e.symm)]
      simp
theorem linesGo_not_mem : ∀ (l cur : List UInt8), 10 ∉ l → linesGo cur l = if cur ++ l = [] then [] else [trimB (cur ++ l)]
  | [], cur, _ => by simp [linesGo]
  | d :: r, cur, h => by
    have h1 : d ≠ 10 := fun e => h (by simp [e])
    show (if d = 10 then _ else _) = _
    rw [if_neg h1, linesGo_not_mem r (cur ++ [d]) (fun hm => h (List.mem_cons_of_mem _ hm))]
    simp
theorem linesB_nil : linesB [] = [] := by simp [linesB, linesGo]
theorem linesB_next (l : List UInt8) (h : l ≠ []) : linesB l = trimB (headB 10 l) :: linesB (tailB 10 l) := by
  unfold linesB
  by_cases hm : 10 ∈ l
  · rw [linesGo_mem l [] hm]; rfl
  · rw [linesGo_not_mem l [] hm, headB_not_mem hm, tailB_not_mem hm]; simp [h, linesGo]
theorem linesB_length (l : List UInt8) : ∀ cur, (linesGo cur l).length ≤ cur.length + l.length := by
  induction l with
  | nil => intro cur; unfold linesGo; split
           · simp
           · rename_i h; have : 0 < cur.length := List.length_pos_iff.2 h; simp; omega
  | cons c r ih =>
    intro cur
    show (if c = 10 then _ else _ : List (List UInt8)).length ≤ _
    split
    · have := ih []; simp at this ⊢; omega
    · have := ih (cur ++ [c]); simp at this ⊢; omega

/-! The first place of a byte -/
theorem indexByte_none (c : UInt8) : ∀ (l : List UInt8), c ∉ l → Lib.indexByte l c = -1
  | [], _ => rfl
  | b :: l, h => by
    have h1 : b ≠ c := fun e => h (by simp [e])
    simp [Lib.indexByte, h1, indexByte_none c l (fun hm => h (List.mem_cons_of_mem _ hm))]
theorem indexByte_head (c : UInt8) : ∀ (l : List UInt8), c ∈ l → Lib.indexByte l c = ((headB c l).length : Int)
  | b :: l, h => by
    by_cases h1 : b = c
    · subst h1; rw [headB_cons_eq]; simp [Lib.indexByte]
    · have ih := indexByte_head c l ((List.mem_cons.1 h).resolve_left fun e => h1 e.symm)
      rw [headB_cons_ne h1]
      unfold Lib.indexByte
      rw [ih]
      have h2 : ¬ ((headB c l).length : Int) = -1 := by omega
      simp [h1, h2]
theorem take_headB {c : UInt8} {l : List UInt8} (h : c ∈ l) : l.take (headB c l).length = headB c l := by
  conv => lhs; arg 2; rw [head_tail_mem h]
  simp
theorem drop_headB {c : UInt8} {l : List UInt8} (h : c ∈ l) : l.drop ((headB c l).length + 1) = tailB c l := by
  conv => lhs; arg 2; rw [head_tail_mem h]
  rw [show headB c l ++ c :: tailB c l = (headB c l ++ [c]) ++ tailB c l by simp, show (headB c l).length + 1 = (headB c l ++ [c]).length by simp, List.drop_left]
theorem headB_length_lt {c : UInt8} {l : List UInt8} (h : c ∈ l) : (headB c l).length < l.length := by
  conv => rhs; rw [head_tail_mem h]
  simp
theorem headB_length_le (c : UInt8) (l : List UInt8) : (headB c l).length ≤ l.length := by
  by_cases h : c ∈ l
  · exact Nat.le_of_lt (headB_length_lt h)
  · rw [headB_not_mem h]; exact Nat.le_refl _
theorem tailB_length_le (c : UInt8) (l : List UInt8) : (tailB c l).length ≤ l.length - 1 := by
  by_cases h : c ∈ l
  · have := congrArg List.length (head_tail_mem h); simp at this; omega
  · rw [tailB_not_mem h]; simp
theorem trimB_length_le (l : List UInt8) : (trimB l).length ≤ l.length := by
  unfold trimB; split <;> simp

/-! Bytes of a text -/
theorem take_snoc (s : ByteArray) (k : Nat) (h : k < s.size) : s.data.toList.take (k + 1) = s.data.toList.take k ++ [s[k]] := by
  rw [List.take_succ_eq_append_getElem (by simpa using h)]; rfl
theorem drop_cons (s : ByteArray) (k : Nat) (h : k < s.size) : s.data.toList.drop k = s[k] :: s.data.toList.drop (k + 1) := by
  rw [List.drop_eq_getElem_cons (by simpa using h)]; rfl
theorem get?_at (s : ByteArray) (k : Nat) (h : k < s.size) : s.data.toList[k]? = some s[k] := by
  have h' : k < s.data.toList.length := by simpa using h
  rw [List.getElem?_eq_getElem h']; rfl
theorem head?_at (s : ByteArray) (h : 0 < s.size) : s.data.toList.head? = some s[0] := by
  rw [List.head?_eq_getElem?]; exact get?_at s 0 h
theorem byte_ext {s t : ByteArray} (h : s.data.toList = t.data.toList) : s = t := by
  cases s; cases t; simp at h; subst h; rfl
theorem byte_inj {s t : ByteArray} : s.data.toList = t.data.toList ↔ s = t := ⟨byte_ext, fun h => by rw [h]⟩
theorem size_toList (s : ByteArray) : s.data.toList.length = s.size := by simp
theorem mk_list (l : List UInt8) : (⟨l.toArray⟩ : ByteArray).data.toList = l := by simp
theorem mk_size (l : List UInt8) : (⟨l.toArray⟩ : ByteArray).size = l.length := by simp [ByteArray.size]
theorem size_zero {s : ByteArray} : s.data.toList = [] ↔ s.size = 0 := by
  rw [← size_toList]; exact List.length_eq_zero_iff.symm
theorem all_take_all {p : UInt8 → Bool} (s : ByteArray) (k : Nat) (h : s.size ≤ k) (ha : (s.data.toList.take k).all p = true) : s.data.toList.all p = true := by
  rwa [List.take_of_length_le (by simpa using h)] at ha
theorem all_false_at {p : UInt8 → Bool} (s : ByteArray) (k : Nat) (h : k < s.size) (hp : p s[k] = false) : s.data.toList.all p = false := by
  rw [List.all_eq_false]
  exact ⟨s[k], List.mem_of_getElem? (get?_at s k h), by simp [hp]⟩
theorem all_take_succ {p : UInt8 → Bool} (s : ByteArray) (k : Nat) (h : k < s.size) (ha : (s.data.toList.take k).all p = true) (hp : p s[k] = true) : (s.data.toList.take (k + 1)).all p = true := by
  rw [take_snoc s k h, List.all_append, ha]; simp [hp]
end Go.Proofs.Ytcpoiaclicmmmaa
