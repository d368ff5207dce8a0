/-
  A scheme's source in plain lists of bytes: blanks, runs, numbers, names, texts, signs, tokens. The grammar in plain lists of tokens: expressions as forests, items, sources; what is wrong, what is too many, and where. Tokens in memory; rows that a call owns: what a store, an append, a call leaves of them.
-/
import Derived.Deep.Trees
import Derived.Test.YtpeldiibjhffiaaDoorProg
import Derived.WalkKit
import Derived.WalkSmall
import Derived.BigQuiet
import Derived.Deep.QuietTactic
import Derived.Lib.AppendStr
import Derived.Lib.OthersKept
namespace Go.Proofs.YtpeldiibjhffiaaDoor

/-- A token: its kind, number, text and place. -/
structure Tk where
  kind : Int
  num : Int
  text : List UInt8
  pl : Nat

def isSmall (c : UInt8) : Bool := decide (97 ≤ c.toNat) && decide (c.toNat ≤ 122)
def isCap (c : UInt8) : Bool := decide (65 ≤ c.toNat) && decide (c.toNat ≤ 90)
def isDig (c : UInt8) : Bool := decide (48 ≤ c.toNat) && decide (c.toNat ≤ 57)
def isPart (c : UInt8) : Bool := isSmall c || isDig c || c == 95 || isCap c
def isBl (c : UInt8) : Bool := c == 32 || c == 9 || c == 10
def isMark (c : UInt8) : Bool := c == 59 || c == 44 || c == 61 || c == 43 || c == 45 || c == 42 || c == 40 || c == 41
def runB (s : List UInt8) : List UInt8 := s.takeWhile isPart
/-- How many bytes of blanks and remarks stand ahead; whether a remark is under way. -/
def skipGo : Bool → List UInt8 → Nat
  | _, [] => 0
  | m, c :: r => if c = 10 then skipGo false r + 1 else if m || isBl c then skipGo m r + 1 else if c = 35 then skipGo true r + 1 else 0
def skipB (s : List UInt8) : Nat := skipGo false s
def maxC : Nat := 72057594037927936
def numGo : Nat → List UInt8 → Option Nat
  | n, [] => some n
  | n, c :: r => if isDig c then (if maxC < 10 * n + (c.toNat - 48) then none else numGo (10 * n + (c.toNat - 48)) r) else none
def numO (w : List UInt8) : Option Nat := if 1 < w.length ∧ w.head? = some 48 then none else numGo 0 w
def wordsB : List (List UInt8) := [[108, 101, 116], [97, 108, 112, 104, 97, 98, 101, 116], [109, 97, 116, 99, 104], [109, 105, 115, 109, 97, 116, 99, 104], [112, 97, 105, 114], [103, 97, 112], [109, 111, 100, 101], [98, 97, 110, 100], [99, 108, 105, 112], [108, 101, 97, 115, 116], [109, 105, 110], [109, 97, 120], [103, 108, 111, 98, 97, 108], [102, 105, 116], [108, 111, 99, 97, 108], [101, 120, 116, 101, 110, 100]]
def wordB (w : List UInt8) : Bool := decide (w ∈ wordsB)
def restOk (c : UInt8) : Bool := isSmall c || isDig c || c == 95
/-- Names by their letters alone: the first small, the rest small, digits, underlines. -/
def lettersB : List UInt8 → Bool
  | [] => true
  | c :: r => isSmall c && r.all restOk
def nameB (w : List UInt8) : Bool := !wordB w && (decide (1 ≤ w.length) && (decide (w.length ≤ 16) && lettersB w))
def innerB (r : List UInt8) : List UInt8 := r.takeWhile (fun c => c != 34)
def inText (c : UInt8) : Bool := decide (32 ≤ c.toNat) && decide (c.toNat ≤ 126)
def textOk (r : List UInt8) : Bool := decide (34 ∈ r) && (decide ((innerB r).length ≤ 40) && (innerB r).all inText)
/-- What is wrong with what a text begins with: 0, nothing. -/
def errB : List UInt8 → Int
  | [] => 60
  | c :: r => if isDig c then (if (numO (runB (c :: r))).isSome then 0 else 61)
    else if isPart c then (if wordB (runB (c :: r)) || nameB (runB (c :: r)) then 0 else 62)
    else if c = 34 then (if textOk r then 0 else 63)
    else if isMark c then 0 else if c = 46 ∧ r.head? = some 46 then 0 else 60
def kindB : List UInt8 → Int
  | [] => 0
  | c :: r => if isDig c then 2 else if isPart c then (if wordB (runB (c :: r)) then 4 else 3) else if c = 34 then 5 else 6
def numB : List UInt8 → Nat
  | [] => 0
  | c :: r => if isDig c then (numO (runB (c :: r))).getD 0 else 0
def textB : List UInt8 → List UInt8
  | [] => []
  | c :: r => if isDig c then [] else if isPart c then runB (c :: r) else if c = 34 then innerB r else if isMark c then [c] else [46, 46]
def lenB : List UInt8 → Nat
  | [] => 0
  | c :: r => if isPart c then (runB (c :: r)).length else if c = 34 then (innerB r).length + 2 else if isMark c then 1 else 2
def tkB (s : List UInt8) (p : Nat) : Tk := ⟨kindB s, numB s, textB s, p⟩
/-- The tokens from a place on, where a token stands or nothing; or the place of what is wrong, and what. -/
def tokGo : Nat → Nat → List UInt8 → List Tk × Nat × Int
  | 0, _, _ => ([], 0, 0)
  | f + 1, p, s => if s = [] then ([], 0, 0) else if errB s ≠ 0 then ([], p, errB s) else
    let n := lenB s
    let k := skipB (s.drop n)
    let r := tokGo f (p + n + k) (s.drop (n + k))
    (tkB s p :: r.1, r.2)
def tokB (p : Nat) (s : List UInt8) : List Tk × Nat × Int := tokGo s.length p s
def endTk (n : Nat) : Tk := ⟨1, 0, [], n⟩
def finB (n : Nat) (r : List Tk × Nat × Int) : List Tk × Nat × Int := if r.2.2 = 0 then (r.1 ++ [endTk n], 0, 0) else ([], r.2)
def scanB (s : List UInt8) : List Tk × Nat × Int :=
  if 4000 < s.length then ([], 0, 2) else finB s.length (tokB (skipB s) (s.drop (skipB s)))

theorem dig_part {c : UInt8} (h : isDig c = true) : isPart c = true := by simp [isPart, h]
theorem skipGo_le (s : List UInt8) : ∀ m, skipGo m s ≤ s.length := by
  induction s with
  | nil => intro m; simp [skipGo]
  | cons c r ih =>
    intro m
    simp only [skipGo, List.length_cons]
    have h1 := ih false; have h2 := ih true; have h3 := ih m
    repeat' split
    all_goals omega
theorem skipB_le (s : List UInt8) : skipB s ≤ s.length := skipGo_le s false
theorem run_pos {c : UInt8} {r : List UInt8} (h : isPart c = true) : 1 ≤ (runB (c :: r)).length := by
  simp [runB, h]
theorem runB_le (s : List UInt8) : (runB s).length ≤ s.length := by
  induction s with
  | nil => simp [runB]
  | cons c r ih => simp only [runB, List.takeWhile_cons] at ih ⊢; split <;> simp <;> omega
theorem runB_take (s : List UInt8) : s.take (runB s).length = runB s := by
  induction s with
  | nil => rfl
  | cons c r ih =>
    unfold runB at ih ⊢
    rw [List.takeWhile_cons]
    split
    · simp [ih]
    · rfl
theorem innerB_le (r : List UInt8) : (innerB r).length ≤ r.length := by
  induction r with
  | nil => simp [innerB]
  | cons c r ih => simp only [innerB, List.takeWhile_cons] at ih ⊢; split <;> simp <;> omega
theorem innerB_lt {r : List UInt8} (h : 34 ∈ r) : (innerB r).length < r.length := by
  induction r with
  | nil => cases h
  | cons c r ih =>
    by_cases hc : c = 34
    · subst hc; simp [innerB]
    · have h2 : 34 ∈ r := by
        rcases List.mem_cons.1 h with h | h
        · exact absurd h.symm hc
        · exact h
      have := ih h2
      simp [innerB, hc] at this ⊢
      omega
theorem lenB_pos {s : List UInt8} (h : s ≠ []) : 1 ≤ lenB s := by
  cases s with
  | nil => exact absurd rfl h
  | cons c r =>
    simp only [lenB]
    split
    · rename_i hp; exact run_pos hp
    · repeat' split
      all_goals omega
theorem lenB_le {s : List UInt8} (h : s ≠ []) (he : errB s = 0) : lenB s ≤ s.length := by
  cases s with
  | nil => exact absurd rfl h
  | cons c r =>
    simp only [lenB]
    split
    · exact runB_le _
    · rename_i hp
      have hd : isDig c = false := by
        cases hx : isDig c with
        | false => rfl
        | true => exact absurd (dig_part hx) hp
      split
      · rename_i h34
        simp only [errB, hd, hp] at he
        have : textOk r = true := by
          cases hx : textOk r with
          | true => rfl
          | false => simp [hx, h34] at he
        simp only [textOk, Bool.and_eq_true, decide_eq_true_eq] at this
        have := innerB_lt this.1
        simp; omega
      · rename_i h34
        split
        · simp
        · rename_i hm
          simp only [errB, hd, hp, h34, hm] at he
          cases r with
          | nil => simp at he
          | cons d r => simp
theorem tok_fuel : ∀ (f f' p : Nat) (s : List UInt8), s.length ≤ f → s.length ≤ f' → tokGo f p s = tokGo f' p s := by
  intro f
  induction f with
  | zero =>
    intro f' p s h1 h2
    have : s = [] := List.eq_nil_of_length_eq_zero (by omega)
    subst this
    cases f' <;> simp [tokGo]
  | succ f ih =>
    intro f' p s h1 h2
    by_cases hs : s = []
    · subst hs
      cases f' <;> simp [tokGo]
    · have hp := lenB_pos hs
      have hl : 1 ≤ s.length := by cases s with | nil => exact absurd rfl hs | cons c r => simp
      cases f' with
      | zero => omega
      | succ f' =>
        simp only [tokGo]
        rw [if_neg hs, if_neg hs]
        have e : ∀ q, tokGo f q (s.drop (lenB s + skipB (s.drop (lenB s)))) = tokGo f' q (s.drop (lenB s + skipB (s.drop (lenB s)))) := fun q => ih f' q _ (by rw [List.length_drop]; omega) (by rw [List.length_drop]; omega)
        rw [e]
theorem tokB_nil (p : Nat) : tokB p [] = ([], 0, 0) := rfl
theorem tokB_err {p : Nat} {s : List UInt8} (hs : s ≠ []) (he : errB s ≠ 0) : tokB p s = ([], p, errB s) := by
  unfold tokB
  cases s with
  | nil => exact absurd rfl hs
  | cons c r => simp only [List.length_cons, tokGo]; rw [if_neg hs, if_pos he]
theorem tokB_ok {p : Nat} {s : List UInt8} (hs : s ≠ []) (he : errB s = 0) :
    tokB p s = (tkB s p :: (tokB (p + lenB s + skipB (s.drop (lenB s))) (s.drop (lenB s + skipB (s.drop (lenB s))))).1, (tokB (p + lenB s + skipB (s.drop (lenB s))) (s.drop (lenB s + skipB (s.drop (lenB s))))).2) := by
  have hp := lenB_pos hs
  unfold tokB
  cases hsl : s.length with
  | zero => exact absurd (List.eq_nil_of_length_eq_zero hsl) hs
  | succ n =>
    rw [tokGo, if_neg hs, if_neg (by simp [he])]
    have e : ∀ q, tokGo n q (s.drop (lenB s + skipB (s.drop (lenB s)))) = tokGo (s.drop (lenB s + skipB (s.drop (lenB s)))).length q (s.drop (lenB s + skipB (s.drop (lenB s)))) := fun q => tok_fuel _ _ _ _ (by rw [List.length_drop]; omega) (by omega)
    simp only [e]
/-- Going on: what was told so far, and what is to come. -/
def addT (l : List Tk) (r : List Tk × Nat × Int) : List Tk × Nat × Int := (l ++ r.1, r.2)
theorem tokB_step {p : Nat} {s : List UInt8} (l : List Tk) (hs : s ≠ []) (he : errB s = 0) :
    addT l (tokB p s) = addT (l ++ [tkB s p]) (tokB (p + lenB s + skipB (s.drop (lenB s))) (s.drop (lenB s + skipB (s.drop (lenB s))))) := by
  rw [tokB_ok hs he]
  simp [addT]
end Go.Proofs.YtpeldiibjhffiaaDoor
namespace Go.Proofs.YtpeldiibjhffiaaDoor
open Go.Deep

/-- What an expression has besides its Kids. -/
structure Hd where
  kind : Int
  num : Int
  text : List UInt8
  pl : Int
/-- A list of expressions: the first one's head, its Kids, the others. -/
abbrev Fo := BT Hd
abbrev Ex := Hd × Fo
def nd (h : Hd) (k r : Fo) : Fo := .node 0 0 h k r
def ofL : List Ex → Fo
  | [] => .nil
  | e :: r => nd e.1 e.2 (ofL r)
def lenF : Fo → Nat
  | .nil => 0
  | .node _ _ _ _ r => lenF r + 1
def szF : Fo → Nat
  | .nil => 0
  | .node _ _ _ k r => szF k + szF r + 1
/-- The depth of the deepest of a list. -/
def depF : Fo → Nat
  | .nil => 0
  | .node _ _ _ k r => max (depF k + 1) (depF r)
theorem lenF_of (l : List Ex) : lenF (ofL l) = l.length := by
  induction l with
  | nil => rfl
  | cons e r ih => simp [ofL, nd, lenF, ih]

/-- What a rule of the grammar says of tokens: what was read, or nothing where something is wrong; where it stands then; the places of what is too many. -/
structure Rs (α : Type) where
  val : Option α
  rest : List Tk
  many : List Int
def Rs.bind {α β : Type} (x : Rs α) (f : α → List Tk → Rs β) : Rs β :=
  match x.val with
  | none => ⟨none, x.rest, x.many⟩
  | some a => ⟨(f a x.rest).val, (f a x.rest).rest, x.many ++ (f a x.rest).many⟩
def Rs.map {α β : Type} (x : Rs α) (f : α → β) : Rs β := ⟨x.val.map f, x.rest, x.many⟩
def pure' {α : Type} (a : α) (l : List Tk) : Rs α := ⟨some a, l, []⟩
def wrong' {α : Type} (l : List Tk) : Rs α := ⟨none, l, []⟩
def plOf : List Tk → Int
  | [] => 0
  | t :: _ => t.pl
theorem bind_none {α β : Type} {x : Rs α} (f : α → List Tk → Rs β) (h : x.val = none) : x.bind f = ⟨none, x.rest, x.many⟩ := by
  unfold Rs.bind; rw [h]
theorem bind_some {α β : Type} {x : Rs α} (f : α → List Tk → Rs β) {a : α} (h : x.val = some a) : x.bind f = ⟨(f a x.rest).val, (f a x.rest).rest, x.many ++ (f a x.rest).many⟩ := by
  unfold Rs.bind; rw [h]

def isT (k : Int) (s : List UInt8) (t : Tk) : Bool := decide (t.kind = k) && decide (t.text = s)
def sawG (k : Int) (s : List UInt8) : List Tk → Bool
  | [] => false
  | t :: _ => isT k s t
def signG (s : List UInt8) : List Tk → Rs Unit
  | [] => wrong' []
  | t :: r => if isT 6 s t then pure' () r else wrong' (t :: r)
def mx : Nat := 4001
def hdB (k : Int) (t : Tk) : Hd := ⟨k, 0, [], t.pl⟩
def termGo (fac : List Tk → Rs Ex) : Nat → Ex → List Tk → Rs Ex
  | 0, e, l => pure' e l
  | _ + 1, e, [] => pure' e []
  | m + 1, e, t :: r => if isT 6 [42] t then (fac r).bind fun e2 l2 => termGo fac m (hdB 7 t, ofL [e, e2]) l2 else pure' e (t :: r)
def termG (fac : List Tk → Rs Ex) (l : List Tk) : Rs Ex := (fac l).bind (termGo fac mx)
def exprGo (trm : List Tk → Rs Ex) : Nat → Ex → List Tk → Rs Ex
  | 0, e, l => pure' e l
  | _ + 1, e, [] => pure' e []
  | m + 1, e, t :: r => if isT 6 [43] t || isT 6 [45] t then (trm r).bind fun e2 l2 => exprGo trm m (hdB (if isT 6 [45] t then 6 else 5) t, ofL [e, e2]) l2 else pure' e (t :: r)
def exprG (fac : List Tk → Rs Ex) (l : List Tk) : Rs Ex := (termG fac l).bind (exprGo (termG fac) mx)
/-- One more is read: its place is told if there are as many as may be. -/
def note {α : Type} (b : Bool) (l : List Tk) (x : Rs α) : Rs α := if b then ⟨x.val, x.rest, plOf l :: x.many⟩ else x
def kidsGo (ex : List Tk → Rs Ex) : Nat → List Ex → List Tk → Rs (List Ex)
  | 0, ks, l => pure' ks l
  | _ + 1, ks, [] => pure' ks []
  | m + 1, ks, t :: r => if isT 6 [44] t then note (decide (ks.length = 8)) r ((ex r).bind fun e l2 => kidsGo ex m (ks ++ [e]) l2) else pure' ks (t :: r)
def closeG {α : Type} (s : List UInt8) (x : Rs α) : Rs α := x.bind fun a l => (signG s l).bind fun _ l2 => pure' a l2
def kidsG (ex : List Tk → Rs Ex) (l : List Tk) : Rs (List Ex) :=
  (signG [40] l).bind fun _ l1 => closeG [41] ((ex l1).bind fun e l2 => kidsGo ex mx [e] l2)
def wMin : List UInt8 := [109, 105, 110]
def wMax : List UInt8 := [109, 97, 120]
def facN : Nat → List Tk → Rs Ex
  | 0, l => wrong' l
  | _ + 1, [] => wrong' []
  | n + 1, t :: r =>
    if t.kind = 2 then pure' (⟨1, t.num, [], t.pl⟩, .nil) r
    else if t.kind = 3 then pure' (⟨2, 0, t.text, t.pl⟩, .nil) r
    else if t.kind = 5 then pure' (⟨3, 0, t.text, t.pl⟩, .nil) r
    else if isT 6 [45] t then (facN n r).map fun e => (hdB 4 t, ofL [e])
    else if isT 6 [40] t then closeG [41] (exprG (facN n) r)
    else if isT 4 wMin t then (kidsG (exprG (facN n)) r).map fun ks => (hdB 8 t, ofL ks)
    else if isT 4 wMax t then (kidsG (exprG (facN n)) r).map fun ks => (hdB 9 t, ofL ks)
    else wrong' (t :: r)
def exprN (n : Nat) (l : List Tk) : Rs Ex := exprG (facN n) l
/-- An item. -/
structure It where
  kind : Int
  name : List UInt8
  args : Fo
  pl : Int
def itemKindB (w : List UInt8) : Int :=
  if w = [108, 101, 116] then 1 else if w = [97, 108, 112, 104, 97, 98, 101, 116] then 2 else if w = [109, 97, 116, 99, 104] then 3
  else if w = [109, 105, 115, 109, 97, 116, 99, 104] then 4 else if w = [112, 97, 105, 114] then 5 else if w = [103, 97, 112] then 6
  else if w = [109, 111, 100, 101] then 7 else if w = [98, 97, 110, 100] then 8 else if w = [99, 108, 105, 112] then 9 else if w = [108, 101, 97, 115, 116] then 10 else 0
def isWayB (w : List UInt8) : Bool := decide (w = [103, 108, 111, 98, 97, 108]) || decide (w = [102, 105, 116]) || decide (w = [108, 111, 99, 97, 108]) || decide (w = [101, 120, 116, 101, 110, 100])
def nameG : List Tk → Rs (List UInt8)
  | [] => wrong' []
  | t :: r => if t.kind = 3 then pure' t.text r else wrong' (t :: r)
def wayG : List Tk → Rs (List UInt8)
  | [] => wrong' []
  | t :: r => if t.kind = 4 ∧ isWayB t.text = true then pure' t.text r else wrong' (t :: r)
def bothG (ex : List Tk → Rs Ex) (s : List UInt8) (l : List Tk) : Rs Fo :=
  (ex l).bind fun a l1 => (signG s l1).bind fun _ l2 => (ex l2).bind fun b l3 => pure' (ofL [a, b]) l3
def oneG (ex : List Tk → Rs Ex) (l : List Tk) : Rs Fo := (ex l).bind fun a l1 => pure' (ofL [a]) l1
/-- What stands behind an item's word: its name and its expressions. -/
def bodyG (ex : List Tk → Rs Ex) (k : Int) (l : List Tk) : Rs (List UInt8 × Fo) :=
  if k = 1 then (nameG l).bind fun s l1 => (signG [61] l1).bind fun _ l2 => (oneG ex l2).bind fun f l3 => pure' (s, f) l3
  else if k = 7 then (wayG l).bind fun s l1 => pure' (s, .nil) l1
  else if k = 8 then (bothG ex [46, 46] l).bind fun f l1 => pure' ([], f) l1
  else if k = 5 ∨ k = 6 ∨ k = 9 then (bothG ex [44] l).bind fun f l1 => pure' ([], f) l1
  else (oneG ex l).bind fun f l1 => pure' ([], f) l1
def itemG (ex : List Tk → Rs Ex) : List Tk → Rs It
  | [] => wrong' []
  | t :: r => if t.kind = 4 ∧ itemKindB t.text ≠ 0 then (closeG [59] (bodyG ex (itemKindB t.text) r)).map fun b => ⟨itemKindB t.text, b.1, b.2, t.pl⟩ else wrong' (t :: r)
def sourceGo (ex : List Tk → Rs Ex) : Nat → List It → List Tk → Rs (List It)
  | 0, its, l => pure' its l
  | _ + 1, its, [] => pure' its []
  | m + 1, its, t :: r => if t.kind = 1 then pure' its (t :: r) else
    note (decide (its.length = 100)) (t :: r) ((itemG ex (t :: r)).bind fun i l2 => sourceGo ex m (its ++ [i]) l2)
def sourceG (l : List Tk) : Rs (List It) := sourceGo (exprN mx) mx [] l
def deepI (i : It) : Bool := decide (32 < depF i.args)
/-- What tokens say: the items, or what is wrong, and where. -/
def endB (x : Rs (List It)) : List It × Int × Int :=
  match x.val with
  | none => ([], 70, plOf x.rest)
  | some its =>
    match x.many with
    | a :: _ => ([], 72, a)
    | [] =>
      match its.find? deepI with
      | some i => ([], 71, i.pl)
      | none => (its, 0, 0)
def parseB (s : List UInt8) : List It × Int × Int := if (scanB s).2.2 ≠ 0 then ([], (scanB s).2.2, (scanB s).2.1) else endB (sourceG (scanB s).1)

/-- A fault that stands, and places of what is too many behind it. -/
def flt (m : List Int) (f : Int × Int) : Int × Int := if f.1 = 0 then (match m with | [] => f | a :: _ => (72, a)) else f
theorem flt_nil (f : Int × Int) : flt [] f = f := by unfold flt; split <;> rfl
theorem flt_append (m n : List Int) (f : Int × Int) : flt (m ++ n) f = flt n (flt m f) := by
  unfold flt
  cases m with
  | nil => simp
  | cons a r => by_cases h : f.1 = 0 <;> simp [h]
end Go.Proofs.YtpeldiibjhffiaaDoor
namespace Go.Proofs.YtpeldiibjhffiaaDoor
open Go.RowKit

theorem ret_int {k : IntKind} {a b : Int} (h : a = b) : Ending.returned (.int k a) = .returned (.int k b) := by rw [h]
theorem ret_bool {a b : Bool} (h : a = b) : Ending.returned (.bool a) = .returned (.bool b) := by rw [h]
theorem byte_ext {a b : ByteArray} (h : a.data.toList = b.data.toList) : a = b := by
  cases a; cases b; simp at h; subst h; rfl
theorem size_toList (s : ByteArray) : s.data.toList.length = s.size := by simp
theorem mk_list (l : List UInt8) : (⟨l.toArray⟩ : ByteArray).data.toList = l := by simp
theorem mk_size (l : List UInt8) : (⟨l.toArray⟩ : ByteArray).size = l.length := by simp [ByteArray.size]
theorem getElem?_at (s : ByteArray) (k : Nat) (h : k < s.size) : s.data.toList[k]? = some s[k] := by
  rw [List.getElem?_eq_getElem (by rw [size_toList]; exact h)]
  rfl
theorem info48 : (Tryd.prog.info? 87).map (fun i => (i.zero, i.size, i.bytes)) = some (some (.agg #[.int .i64 0, .int .i64 0, .string ByteArray.empty, .int .i64 0]), 4, 40) := by kernel_rfl
def bs (l : List UInt8) : ByteArray := ⟨l.toArray⟩
theorem bs_list (l : List UInt8) : (bs l).data.toList = l := by simp [bs]
theorem bs_size (l : List UInt8) : (bs l).size = l.length := by simp [bs, ByteArray.size]
theorem bs_of (s : ByteArray) : bs s.data.toList = s := byte_ext (by rw [bs_list])
theorem bs_toList (l : List UInt8) : (bs l).toList = l := by rw [ByteArray.toList_eq, bs_list]
def tkAgg (t : Tk) : Value := .agg #[.int .i64 t.kind, .int .i64 t.num, .string (bs t.text), .int .i64 (t.pl : Int)]
def tkCells (t : Tk) : List Value := [.int .i64 t.kind, .int .i64 t.num, .string (bs t.text), .int .i64 (t.pl : Int)]
theorem tk_len (t : Tk) : (tkCells t).length = 4 := rfl
/-- Its numbers are numbers of the machine. -/
structure TkOk (t : Tk) : Prop where
  kind : -10 ≤ t.kind ∧ t.kind ≤ 10
  num : 0 ≤ t.num ∧ t.num ≤ 72057594037927936
  text : t.text.length ≤ 4000
  pl : t.pl ≤ 4000
/-- A slice of tokens that can be read in a world. -/
structure TksAt (w : World) (ao : Option Addr) (len : Nat) (l : List Tk) : Prop where
  length : l.length = len
  short : len ≤ maxLen
  fits : ∀ t ∈ l, TkOk t
  cells : 0 < len → ∃ b off, ao = some ⟨b, off, none⟩ ∧ ∀ i t, l[i]? = some t → w.cell? ⟨b, off + i * 4, none⟩ = some (.int .i64 t.kind) ∧ w.cell? ⟨b, off + i * 4 + 1, none⟩ = some (.int .i64 t.num) ∧ w.cell? ⟨b, off + i * 4 + 2, none⟩ = some (.string (bs t.text)) ∧ w.cell? ⟨b, off + i * 4 + 3, none⟩ = some (.int .i64 (t.pl : Int))
theorem TksAt.below {w w' : World} {ao : Option Addr} {len : Nat} {l : List Tk} (h : TksAt w ao len l) (hb : Below w.heap.size w w') : TksAt w' ao len l := by
  refine ⟨h.length, h.short, h.fits, fun h0 => ?_⟩
  obtain ⟨b, off, e, hc⟩ := h.cells h0
  refine ⟨b, off, e, fun i q hi => ?_⟩
  obtain ⟨h1, h2, h3, h4⟩ := hc i q hi
  refine ⟨?_, ?_, ?_, ?_⟩
  · rw [hb.cell (World.block_lt_of_cell? w _ h1)]; exact h1
  · rw [hb.cell (World.block_lt_of_cell? w _ h2)]; exact h2
  · rw [hb.cell (World.block_lt_of_cell? w _ h3)]; exact h3
  · rw [hb.cell (World.block_lt_of_cell? w _ h4)]; exact h4
def rowCells (l : List Tk) : List Value := l.flatMap tkCells
theorem rowCells_length (l : List Tk) : (rowCells l).length = l.length * 4 := by
  induction l with
  | nil => rfl
  | cons q r ih => simp only [rowCells, List.flatMap_cons, List.length_append, List.length_cons] at ih ⊢; rw [ih, tk_len]; omega
theorem rowCells_snoc (l : List Tk) (q : Tk) : rowCells (l ++ [q]) = rowCells l ++ tkCells q := by simp [rowCells]
theorem flat_get {α : Type} {f : α → List Value} {s : Nat} (h : ∀ a, (f a).length = s) : ∀ (l : List α) (i : Nat) (a : α) (j : Nat) (u : Value), l[i]? = some a → (f a)[j]? = some u → (l.flatMap f)[i * s + j]? = some u
  | [], i, a, j, u, hi, _ => by simp at hi
  | b :: r, 0, a, j, u, hi, hj => by
    simp at hi; subst hi
    have hlt : j < (f b).length := (List.getElem?_eq_some_iff.1 hj).1
    rw [List.flatMap_cons, Nat.zero_mul, Nat.zero_add, List.getElem?_append_left hlt]; exact hj
  | b :: r, i + 1, a, j, u, hi, hj => by
    have e : (i + 1) * s + j = s + (i * s + j) := by rw [Nat.add_mul, Nat.one_mul]; omega
    rw [List.flatMap_cons, List.getElem?_append_right (by rw [h b]; omega), h b, e, Nat.add_sub_cancel_left]
    exact flat_get h r i a j u (by simpa using hi) hj
theorem flat_set {α : Type} {f : α → List Value} {s : Nat} (h : ∀ a, (f a).length = s) : ∀ (l : List α) (i : Nat) (a b : α) (j : Nat) (u : Value), l[i]? = some a → j < s → (f a).set j u = f b → (l.flatMap f).set (i * s + j) u = (l.set i b).flatMap f
  | [], i, a, b, j, u, hi, _, _ => by simp at hi
  | c :: r, 0, a, b, j, u, hi, hj, he => by
    simp at hi; subst hi
    rw [List.flatMap_cons, Nat.zero_mul, Nat.zero_add, List.set_append_left _ _ (by rw [h c]; exact hj), he]; rfl
  | c :: r, i + 1, a, b, j, u, hi, hj, he => by
    have e : (i + 1) * s + j = s + (i * s + j) := by rw [Nat.add_mul, Nat.one_mul]; omega
    rw [List.flatMap_cons, List.set_append_right _ _ (by rw [h c]; omega), h c, e, Nat.add_sub_cancel_left, flat_set h r i a b j u (by simpa using hi) hj he]; rfl
theorem tk_oneCell (q : Tk) : ∀ u ∈ tkCells q, u.oneCell' = true := by
  intro u hu
  simp [tkCells] at hu
  rcases hu with rfl | rfl | rfl | rfl <;> rfl
theorem owned_shape {w : World} {base : Nat} {e : TypeId} {size : Nat} {v : Value} {n : Nat} {xs : List Value} (h : w.ownsRow base e size v n xs) : ∃ ao cap, v = .slice ao n cap := by
  rcases h.2 with ⟨rfl, rfl⟩ | ⟨g, cap, _, rfl, _⟩
  · exact ⟨none, 0, rfl⟩
  · exact ⟨some ⟨g, 0, none⟩, cap, rfl⟩
theorem lt_block {w : World} {g : Nat} {o : Obj} (h : w.heap[g]? = some o) : g < w.heap.size := (Array.getElem?_eq_some_iff.1 h).1
/-- A row stays owned where its block stays as it is. -/
theorem owned_of_block {w w' : World} {base : Nat} {e : TypeId} {size : Nat} {v : Value} {n : Nat} {xs : List Value} (h : w.ownsRow base e size v n xs)
    (hk : ∀ g cur, v.ownBlock = some g → w.heap[g]? = some (.cells cur e (0, 0)) → w'.heap[g]? = w.heap[g]?) : w'.ownsRow base e size v n xs := by
  refine ⟨h.1, ?_⟩
  rcases h.2 with hn | ⟨g, cap, cur, hv, hb, hg, rest⟩
  · exact .inl hn
  · exact .inr ⟨g, cap, cur, hv, hb, by rw [hk g cur (by rw [hv]; rfl) hg]; exact hg, rest⟩
theorem owned_setOther {w : World} {base : Nat} {e t : TypeId} {size : Nat} {v : Value} {n : Nat} {xs : List Value} (h : w.ownsRow base e size v n xs) {b i : Nat} {cs : Array Value} {f : Nat × Nat}
    (hb : w.heap[b]? = some (.cells cs t f)) (hne : e ≠ t) (u : Value) : (w.setCell ⟨b, i, none⟩ u).ownsRow base e size v n xs :=
  owned_of_block h fun g cur _ hg => Below.heap_setCell w _ u g (fun e' => by
    have e'' : g = b := e'
    rw [e''] at hg; rw [hb] at hg; cases hg; exact hne rfl)
theorem owned_below {w w' : World} {base : Nat} {e : TypeId} {size : Nat} {v : Value} {n : Nat} {xs : List Value} (h : w.ownsRow base e size v n xs) (hb : Below w.heap.size w w') : w'.ownsRow base e size v n xs :=
  owned_of_block h fun g _ _ hg => hb.block g (lt_block hg)
theorem owned_grown {w w' : World} {base : Nat} {e t : TypeId} {size : Nat} {v : Value} {n : Nat} {xs : List Value} (h : w.ownsRow base e size v n xs) {v2 : Value} {n2 : Nat} {xs2 : List Value} {base2 size2 : Nat}
    (h2 : w.ownsRow base2 t size2 v2 n2 xs2) (hne : e ≠ t) (hg : w.grownBy w' v2.ownBlock) : w'.ownsRow base e size v n xs :=
  owned_of_block h fun g cur _ hc => hg.block g (lt_block hc) (fun e' => by
    rcases h2.2 with ⟨hv, _⟩ | ⟨g', cap', cur', hv, _, hg', _⟩
    · rw [hv] at e'; cases e'
    · rw [hv] at e'; simp [Value.ownBlock] at e'; subst e'; rw [hg'] at hc; cases hc; exact hne rfl)
theorem owned_set {w : World} {base : Nat} {e : TypeId} {size : Nat} {g n cap : Nat} {xs : List Value} (h : w.ownsRow base e size (.slice (some ⟨g, 0, none⟩) n cap) n xs) (j : Nat) (u : Value) :
    (w.setCell ⟨g, j, none⟩ u).ownsRow base e size (.slice (some ⟨g, 0, none⟩) n cap) n (xs.set j u) := by
  refine ⟨by simp [h.1], ?_⟩
  rcases h.2 with ⟨hv, _⟩ | ⟨g', cap', cur, hv, hb, hg, h1, h2, h3, h4⟩
  · cases hv
  · cases hv
    exact .inr ⟨g, cap, cur.setIfInBounds j u, rfl, hb, heap_setCell_same w g j cur e u hg, h1, h2, by simp [h3], by simp [List.take_set, h4]⟩
theorem owned_cells {w : World} {base : Nat} {e : TypeId} {size : Nat} {g n cap : Nat} {xs : List Value} (h : w.ownsRow base e size (.slice (some ⟨g, 0, none⟩) n cap) n xs) (j : Nat) (u : Value) (hj : xs[j]? = some u) :
    w.cell? ⟨g, j, none⟩ = some u ∧ w.frozen? ⟨g, j, none⟩ = false := by
  rcases h.2 with ⟨hv, _⟩ | ⟨g', cap', cur, hv, hb, hg, h1, h2, h3, h4⟩
  · cases hv
  · cases hv
    refine ⟨?_, frozen_of_row w g j cur e hg⟩
    rw [cell_of_row w g j cur e (0, 0) hg]
    rw [← h4] at hj
    have h5 : j < (cur.toList.take (n * size)).length := (List.getElem?_eq_some_iff.1 hj).1
    have h6 : j < n * size := by simp at h5; omega
    rw [List.getElem?_take_of_lt h6] at hj
    simpa using hj
theorem owned_tk {w : World} {base g n cap : Nat} {l : List Tk} (h : w.ownsRow base 87 4 (.slice (some ⟨g, 0, none⟩) n cap) n (rowCells l)) {k : Nat} {t : Tk} (hk : l[k]? = some t) :
    w.cell? ⟨g, k * 4, none⟩ = some (.int .i64 t.kind) ∧ w.cell? ⟨g, k * 4 + 1, none⟩ = some (.int .i64 t.num) ∧ w.cell? ⟨g, k * 4 + 2, none⟩ = some (.string (bs t.text)) ∧ w.cell? ⟨g, k * 4 + 3, none⟩ = some (.int .i64 (t.pl : Int)) := by
  have hc : ∀ j u, (tkCells t)[j]? = some u → w.cell? ⟨g, k * 4 + j, none⟩ = some u := fun j u hu => (owned_cells h _ _ (flat_get tk_len l k t j u hk hu)).1
  exact ⟨hc 0 _ rfl, hc 1 _ rfl, hc 2 _ rfl, hc 3 _ rfl⟩
theorem owned_tks {w : World} {base : Nat} {ao : Option Addr} {n cap : Nat} {l : List Tk} (h : w.ownsRow base 87 4 (.slice ao n cap) n (rowCells l)) (hf : ∀ r ∈ l, TkOk r) : TksAt w ao n l := by
  have hl : l.length = n := by have := h.1; rw [rowCells_length] at this; omega
  rcases h.2 with ⟨hv, rfl⟩ | ⟨g, cap', cur, hv, hb, hg, h1, h2, h3, h4⟩
  · exact ⟨hl, by decide, hf, fun h0 => absurd h0 (by omega)⟩
  · cases hv
    refine ⟨hl, by omega, hf, fun _ => ⟨g, 0, rfl, fun i q hi => ?_⟩⟩
    simp only [Nat.zero_add]
    exact owned_tk h hi
theorem owned_some {w : World} {base : Nat} {v : Value} {n : Nat} {e : TypeId} {size : Nat} {xs : List Value} (h : w.ownsRow base e size v n xs) (hn : 0 < n) : ∃ g cap, v = .slice (some ⟨g, 0, none⟩) n cap ∧ base ≤ g ∧ n ≤ cap ∧ n ≤ maxLen ∧ g < w.heap.size := by
  rcases h.2 with ⟨_, h0⟩ | ⟨g, cap, cur, hv, hb, hg, h1, h2, h3, h4⟩
  · omega
  · exact ⟨g, cap, hv, hb, h1, by omega, lt_block hg⟩
theorem owned_none {w : World} {base : Nat} {ao : Option Addr} {n cap : Nat} {e : TypeId} {size : Nat} {xs : List Value} (h : w.ownsRow base e size (.slice ao n cap) n xs) : w.ownsRow base e size (.slice ao 0 cap) 0 [] := by
  refine ⟨by simp, ?_⟩
  rcases h.2 with ⟨hv, rfl⟩ | ⟨g, cap', cur, hv, hb, hg, h1, h2, h3, h4⟩
  · cases hv; exact .inl ⟨rfl, rfl⟩
  · cases hv; exact .inr ⟨g, cap, cur, rfl, hb, hg, Nat.zero_le _, h2, h3, by simp⟩

theorem owned_base {w : World} {b b' : Nat} {e : TypeId} {size : Nat} {v : Value} {n : Nat} {xs : List Value} (h : w.ownsRow b e size v n xs) (hb : b' ≤ b) : w.ownsRow b' e size v n xs := by
  refine ⟨h.1, ?_⟩
  rcases h.2 with hn | ⟨g, cap, cur, hv, h1, rest⟩
  · exact .inl hn
  · exact .inr ⟨g, cap, cur, hv, by omega, rest⟩
theorem owned_none_nil (w : World) (B : Nat) : w.ownsRow B 87 4 (.slice none 0 0) ([] : List Tk).length (rowCells []) := World.ownsRow_nil _ _ _ _
theorem below_append {B n : Nat} {e : TypeId} {size : Nat} {v : Value} {xs : List Value} {w w3 : World} (hown : w.ownsRow B e size v n xs) (hB : B ≤ w.heap.size) {o : Obj} (hg : (w.alloc o).grownBy w3 v.ownBlock) : Below B w w3 :=
  Below.grown ((Below.refl _ _).alloc hB o) hg (by simp; omega) (fun j hj => (hown.lt _ hj).1)
end Go.Proofs.YtpeldiibjhffiaaDoor
