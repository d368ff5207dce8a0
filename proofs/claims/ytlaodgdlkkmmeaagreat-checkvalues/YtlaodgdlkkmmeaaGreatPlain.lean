/-
  A scheme's source in plain lists of bytes: blanks, runs, numbers, names, texts, signs, tokens.
-/
namespace Go.Proofs.YtlaodgdlkkmmeaaGreat
/-- A token: its kind, number, text and place. -/
structure Tk where
 kind:Int
 num:Int
 text:List UInt8
 pl:Nat
def isSmall (c:UInt8):Bool:=decide (97 <= c.toNat) && decide (c.toNat <= 122)
def isCap (c:UInt8):Bool:=decide (65 <= c.toNat) && decide (c.toNat <= 90)
def isDig (c:UInt8):Bool:=decide (48 <= c.toNat) && decide (c.toNat <= 57)
def isPart (c:UInt8):Bool:=isSmall c || isDig c || c == 95 || isCap c
def isBl (c:UInt8):Bool:=c == 32 || c == 9 || c == 10
def isMark (c:UInt8):Bool:=c == 59 || c == 44 || c == 61 || c == 43 || c == 45 || c == 42 || c == 40 || c == 41
def runB (s:List UInt8):List UInt8:=s.takeWhile isPart
/-- How many bytes of blanks and remarks stand ahead; whether a remark is under way. -/
def skipGo:Bool -> List UInt8 -> Nat
 | _,[]=>0
 | m,c :: r=>if c = 10 then skipGo false r + 1 else if m || isBl c then skipGo m r + 1 else if c = 35 then skipGo true r + 1 else 0
def skipB (s:List UInt8):Nat:=skipGo false s
def maxC:Nat:=72057594037927936
def numGo:Nat -> List UInt8 -> Option Nat
 | n,[]=>some n
 | n,c :: r=>if isDig c then (if maxC < 10 * n + (c.toNat - 48) then none else numGo (10 * n + (c.toNat - 48)) r) else none
def numO (w:List UInt8):Option Nat:=if 1 < w.length /\ w.head? = some 48 then none else numGo 0 w
def wordsB:List (List UInt8):=[[108,101,116],[97,108,112,104,97,98,101,116],[109,97,116,99,104],[109,105,115,109,97,116,99,104],[112,97,105,114],[103,97,112],[109,111,100,101],[98,97,110,100],[99,108,105,112],[108,101,97,115,116],[109,105,110],[109,97,120],[103,108,111,98,97,108],[102,105,116],[108,111,99,97,108],[101,120,116,101,110,100]]
def wordB (w:List UInt8):Bool:=decide (w ∈ wordsB)
def restOk (c:UInt8):Bool:=isSmall c || isDig c || c == 95
/-- Names by their letters alone: the first small, the rest small, digits, underlines. -/
def lettersB:List UInt8 -> Bool
 | []=>true
 | c :: r=>isSmall c && r.all restOk
def nameB (w:List UInt8):Bool:=!wordB w && (decide (1 <= w.length) && (decide (w.length <= 16) && lettersB w))
def innerB (r:List UInt8):List UInt8:=r.takeWhile (fun c=>c != 34)
def inText (c:UInt8):Bool:=decide (32 <= c.toNat) && decide (c.toNat <= 126)
def textOk (r:List UInt8):Bool:=decide (34 ∈ r) && (decide ((innerB r).length <= 40) && (innerB r).all inText)
/-- What is wrong with what a text begins with: 0, nothing. -/
def errB:List UInt8 -> Int
 | []=>60
 | c :: r=>if isDig c then (if (numO (runB (c :: r))).isSome then 0 else 61)
   else if isPart c then (if wordB (runB (c :: r)) || nameB (runB (c :: r)) then 0 else 62)
   else if c = 34 then (if textOk r then 0 else 63)
   else if isMark c then 0 else if c = 46 /\ r.head? = some 46 then 0 else 60
def kindB:List UInt8 -> Int
 | []=>0
 | c :: r=>if isDig c then 2 else if isPart c then (if wordB (runB (c :: r)) then 4 else 3) else if c = 34 then 5 else 6
def numB:List UInt8 -> Nat
 | []=>0
 | c :: r=>if isDig c then (numO (runB (c :: r))).getD 0 else 0
def textB:List UInt8 -> List UInt8
 | []=>[]
 | c :: r=>if isDig c then [] else if isPart c then runB (c :: r) else if c = 34 then innerB r else if isMark c then [c] else [46,46]
def lenB:List UInt8 -> Nat
 | []=>0
 | c :: r=>if isPart c then (runB (c :: r)).length else if c = 34 then (innerB r).length + 2 else if isMark c then 1 else 2
def tkB (s:List UInt8) (p:Nat):Tk:=⟨kindB s,numB s,textB s,p⟩
/-- The tokens from a place on, where a token stands or nothing; or the place of what is wrong, and what. -/
def tokGo:Nat -> Nat -> List UInt8 -> List Tk × Nat × Int
 | 0,_,_=>([],0,0)
 | f + 1,p,s=>if s = [] then ([],0,0) else if errB s ≠ 0 then ([],p,errB s) else
   let n:=lenB s
   let k:=skipB (s.drop n)
   let r:=tokGo f (p + n + k) (s.drop (n + k))
   (tkB s p :: r.1,r.2)
def tokB (p:Nat) (s:List UInt8):List Tk × Nat × Int:=tokGo s.length p s
def endTk (n:Nat):Tk:=⟨1,0,[],n⟩
def finB (n:Nat) (r:List Tk × Nat × Int):List Tk × Nat × Int:=if r.2.2 = 0 then (r.1 ++ [endTk n],0,0) else ([],r.2)
def scanB (s:List UInt8):List Tk × Nat × Int:=
 if 4000 < s.length then ([],0,2) else finB s.length (tokB (skipB s) (s.drop (skipB s)))
theorem dig_part {c:UInt8} (h:isDig c = true):isPart c = true:=by simp [isPart,h]
theorem skipGo_le (s:List UInt8):∀ m,skipGo m s <= s.length:=by
 induction s with
 | nil=>intro m; simp [skipGo]
 | cons c r ih=>
   intro m
   simp only [skipGo,List.length_cons]
   have h1:=ih false; have h2:=ih true; have h3:=ih m
   repeat' split
   all_goals omega
theorem skipB_le (s:List UInt8):skipB s <= s.length:=skipGo_le s false
theorem run_pos {c:UInt8} {r:List UInt8} (h:isPart c = true):1 <= (runB (c :: r)).length:=by
 simp [runB,h]
theorem runB_le (s:List UInt8):(runB s).length <= s.length:=by
 induction s with
 | nil=>simp [runB]
 | cons c r ih=>simp only [runB,List.takeWhile_cons] at ih ⊢; split <;> simp <;> omega
theorem runB_take (s:List UInt8):s.take (runB s).length = runB s:=by
 induction s with
 | nil=>rfl
 | cons c r ih=>
   unfold runB at ih ⊢
   rw [List.takeWhile_cons]
   split
   ·simp [ih]
   ·rfl
theorem innerB_le (r:List UInt8):(innerB r).length <= r.length:=by
 induction r with
 | nil=>simp [innerB]
 | cons c r ih=>simp only [innerB,List.takeWhile_cons] at ih ⊢; split <;> simp <;> omega
theorem innerB_lt {r:List UInt8} (h:34 ∈ r):(innerB r).length < r.length:=by
 induction r with
 | nil=>cases h
 | cons c r ih=>
   by_cases hc:c = 34
   ·subst hc; simp [innerB]
   ·have h2:34 ∈ r:=by
     rcases List.mem_cons.1 h with h | h
     ·exact absurd h.symm hc
     ·exact h
    have:=ih h2
    simp [innerB,hc] at this ⊢
    omega
theorem lenB_pos {s:List UInt8} (h:s ≠ []):1 <= lenB s:=by
 cases s with
 | nil=>exact absurd rfl h
 | cons c r=>
   simp only [lenB]
   split
   ·rename_i hp; exact run_pos hp
   ·repeat' split
    all_goals omega
theorem lenB_le {s:List UInt8} (h:s ≠ []) (he:errB s = 0):lenB s <= s.length:=by
 cases s with
 | nil=>exact absurd rfl h
 | cons c r=>
   simp only [lenB]
   split
   ·exact runB_le _
   ·rename_i hp
    have hd:isDig c = false:=by
     cases hx:isDig c with
     | false=>rfl
     | true=>exact absurd (dig_part hx) hp
    split
    ·rename_i h34
     simp only [errB,hd,hp] at he
     have:textOk r = true:=by
      cases hx:textOk r with
      | true=>rfl
      | false=>simp [hx,h34] at he
     simp only [textOk,Bool.and_eq_true,decide_eq_true_eq] at this
     have:=innerB_lt this.1
     simp; omega
    ·rename_i h34
     split
     ·simp
     ·rename_i hm
      simp only [errB,hd,hp,h34,hm] at he
      cases r with
      | nil=>simp at he
      | cons d r=>simp
theorem tok_fuel:∀ (f f' p:Nat) (s:List UInt8),s.length <= f -> s.length <= f' -> tokGo f p s = tokGo f' p s:=by
 intro f
 induction f with
 | zero=>
   intro f' p s h1 h2
   have:s = []:=List.eq_nil_of_length_eq_zero (by omega)
   subst this
   cases f' <;> simp [tokGo]
 | succ f ih=>
   intro f' p s h1 h2
   by_cases hs:s = []
   ·subst hs
    cases f' <;> simp [tokGo]
   ·have hp:=lenB_pos hs
    have hl:1 <= s.length:=by cases s with | nil=>exact absurd rfl hs | cons c r=>simp
    cases f' with
    | zero=>omega
    | succ f'=>
      simp only [tokGo]
      rw [if_neg hs,if_neg hs]
      have e:∀ q,tokGo f q (s.drop (lenB s + skipB (s.drop (lenB s)))) = tokGo f' q (s.drop (lenB s + skipB (s.drop (lenB s)))):=fun q=>ih f' q _ (by rw [List.length_drop]; omega) (by rw [List.length_drop]; omega)
      rw [e]
theorem tokB_nil (p:Nat):tokB p [] = ([],0,0):=rfl
theorem tokB_err {p:Nat} {s:List UInt8} (hs:s ≠ []) (he:errB s ≠ 0):tokB p s = ([],p,errB s):=by
 unfold tokB
 cases s with
 | nil=>exact absurd rfl hs
 | cons c r=>simp only [List.length_cons,tokGo]; rw [if_neg hs,if_pos he]
theorem tokB_ok {p:Nat} {s:List UInt8} (hs:s ≠ []) (he:errB s = 0) :
 tokB p s = (tkB s p :: (tokB (p + lenB s + skipB (s.drop (lenB s))) (s.drop (lenB s + skipB (s.drop (lenB s))))).1,(tokB (p + lenB s + skipB (s.drop (lenB s))) (s.drop (lenB s + skipB (s.drop (lenB s))))).2):=by
 have hp:=lenB_pos hs
 unfold tokB
 cases hsl:s.length with
 | zero=>exact absurd (List.eq_nil_of_length_eq_zero hsl) hs
 | succ n=>
   rw [tokGo,if_neg hs,if_neg (by simp [he])]
   have e:∀ q,tokGo n q (s.drop (lenB s + skipB (s.drop (lenB s)))) = tokGo (s.drop (lenB s + skipB (s.drop (lenB s)))).length q (s.drop (lenB s + skipB (s.drop (lenB s)))):=fun q=>tok_fuel _ _ _ _ (by rw [List.length_drop]; omega) (by omega)
   simp only [e]
/-- Going on: what was told so far, and what is to come. -/
def addT (l:List Tk) (r:List Tk × Nat × Int):List Tk × Nat × Int:=(l ++ r.1,r.2)
theorem tokB_step {p:Nat} {s:List UInt8} (l:List Tk) (hs:s ≠ []) (he:errB s = 0) :
 addT l (tokB p s) = addT (l ++ [tkB s p]) (tokB (p + lenB s + skipB (s.drop (lenB s))) (s.drop (lenB s + skipB (s.drop (lenB s))))):=by
 rw [tokB_ok hs he]
 simp [addT]
theorem lA {α:Type} (l:List α) (i:Nat) (a:α):l.toArray.setIfInBounds i a = (l.set i a).toArray:=List.setIfInBounds_toArray ..
theorem lB {α:Type} (a:α) (l:List α) (n:Nat) (b:α):(a :: l).set (n + 1) b = a :: l.set n b:=rfl
theorem lC {α:Type} (a:α) (l:List α) (b:α):(a :: l).set 0 b = b :: l:=rfl
end Go.Proofs.YtlaodgdlkkmmeaaGreat
