/-
  What a tree means, in plain lists: definitions and their numbers, meanings, names; what is wrong, and where. Definitions and their numbers, in plain lists.
-/
import Derived.Test.YtlaodgdlkkmmeaaGreatG02
import Derived.Test.YtlaodgdlkkmmeaaGreatAlP
namespace Go.Proofs.YtlaodgdlkkmmeaaGreat
open Go.Deep
structure Df where
 op:Int
 num:Int
 a:Int
 b:Int
structure Mn where
 isText:Bool
 text:List UInt8
 place:Int
 num:Int
def mn0:Mn:=⟨false,[],0,0⟩
abbrev maxV:Int:=144115188075855872
abbrev maxK:Int:=72057594037927936
def inB (m v:Int):Bool:=decide (-m <= v) && decide (v <= m)
theorem inB_iff (m v:Int):inB m v = true ↔ -m <= v /\ v <= m:=by simp [inB]
def vAt (vs:List Int) (i:Int):Int:=vs.getD i.toNat 0
/-- The number of a definition, by those ahead of it. -/
def rawB (vs:List Int) (d:Df):Int:=
 if d.op = 2 then -(vAt vs d.a) else if d.op = 3 then vAt vs d.a + vAt vs d.b else if d.op = 4 then vAt vs d.a - vAt vs d.b
 else if d.op = 5 then vAt vs d.a * vAt vs d.b else if d.op = 6 then min (vAt vs d.a) (vAt vs d.b) else if d.op = 7 then max (vAt vs d.a) (vAt vs d.b) else d.num
/-- What was said so far. -/
structure Ck where
 letters:List UInt8
 defs:List Df
 subst:List Int
 pieces:List (Int × Int)
 mode:Int
 banded:Bool
 lo:Int
 hi:Int
 front:Int
 back:Int
 least:Int
 values:List Int
 names:List (List UInt8 × Mn)
 had:Nat -> Bool
 pl:Int
 mat:Int
 mis:Int
abbrev Er (α:Type):=Except (Int × Int) α
def layB (c:Ck) (d:Df) (p:Int):Er (Ck × Mn):=
 if inB maxK (rawB c.values d) = false then .error (93,p)
 else if c.values.length = 5000 then .error (72,c.pl)
 else .ok ({ c with defs:=c.defs ++ [d],values:=c.values ++ [rawB c.values d] },⟨false,[],c.values.length,rawB c.values d⟩)
def foldB (op p:Int):Ck -> Mn -> List Mn -> Er (Ck × Mn)
 | c,m,[]=>.ok (c,m)
 | c,m,k :: r=>
   match layB c ⟨op,0,m.place,k.place⟩ p with
   | .error f=>.error f
   | .ok (c1,m1)=>foldB op p c1 m1 r
/-- The place of the first expression of a list that is a text. -/
def txtAt:Fo -> List Mn -> Option Int
 | .node _ _ h _ r,m :: ms=>if m.isText then some h.pl else txtAt r ms
 | _,_=>none
def defOpB (k:Int):Int:=if k = 5 then 3 else if k = 6 then 4 else if k = 7 then 5 else if k = 8 then 6 else 7
def compB (h:Hd) (k:Fo):Er (Ck × List Mn) -> Er (Ck × Mn)
 | .error f=>.error f
 | .ok (c,ms)=>
   match txtAt k ms with
   | some p=>.error (92,p)
   | none=>
     match ms with
     | []=>.ok (c,mn0)
     | m :: r=>if h.kind = 4 then layB c ⟨2,0,m.place,0⟩ h.pl else foldB (defOpB h.kind) h.pl c m r
def lookN:List (List UInt8 × Mn) -> List UInt8 -> Option Mn
 | [],_=>none
 | (k,m) :: r,s=>if k = s then some m else lookN r s
def exprC (c:Ck) (h:Hd) (k:Fo) (kr:Er (Ck × List Mn)):Er (Ck × Mn):=
 if h.kind = 1 then layB c ⟨1,h.num,0,0⟩ h.pl
 else if h.kind = 3 then .ok (c,⟨true,h.text,0,0⟩)
 else if h.kind = 2 then (match lookN c.names h.text with | none=>.error (91,h.pl) | some m=>.ok (c,m))
 else compB h k kr
def askF:Fo -> Ck -> Er (Ck × List Mn)
 | .nil,c=>.ok (c,[])
 | .node _ _ h k r,c=>
   match exprC c h k (askF k c) with
   | .error f=>.error f
   | .ok (c1,m)=>
     match askF r c1 with
     | .error f=>.error f
     | .ok (c2,ms)=>.ok (c2,m :: ms)
def askE (c:Ck) (e:Ex):Er (Ck × Mn):=exprC c e.1 e.2 (askF e.2 c)
/-- An expression that must be of a kind. -/
def askQ (q:Mn -> Int) (c:Ck) (e:Ex):Er (Ck × Mn):=
 match askE c e with
 | .error f=>.error f
 | .ok (c1,m)=>if q m = 0 then .ok (c1,m) else .error (q m,e.1.pl)
def numFrom (least:Int) (m:Mn):Int:=if m.isText then 92 else if m.num < least then 93 else 0
def textQ (right:List UInt8 -> Bool) (m:Mn):Int:=if m.isText = false then 92 else if right m.text = false then 10 else 0
def singleB (set:Ck -> Int -> Ck) (c:Ck) (e:Ex):Er Ck:=
 match askQ (numFrom (-maxK)) c e with
 | .error f=>.error f
 | .ok (c1,m)=>.ok (set c1 m.place)
def costsB (c:Ck) (e1 e2:Ex):Er (Ck × Int × Int):=
 match askQ (numFrom 0) c e1 with
 | .error f=>.error f
 | .ok (c1,m1)=>
   match askQ (numFrom 0) c1 e2 with
   | .error f=>.error f
   | .ok (c2,m2)=>.ok (c2,m1.place,m2.place)
/-- The number of a letter, below 0 for what is none. -/
def codeU (l:List UInt8) (c:UInt8):Int:=Al.codeB l (c.toNat:Int)
def letB (c:Ck) (name:List UInt8) (e:Ex):Er Ck:=
 match askE c e with
 | .error f=>.error f
 | .ok (c1,m)=>.ok { c1 with names:=(name,m) :: c1.names }
def alphabetB (c:Ck) (e:Ex):Er Ck:=
 match askQ (textQ Al.rightB) c e with
 | .error f=>.error f
 | .ok (c1,m)=>.ok { c1 with letters:=m.text,subst:=List.replicate (m.text.length * m.text.length) (-1) }
def isPair (l:List UInt8) (s:List UInt8):Bool:=
 match s with
 | [x,y]=>decide (0 <= codeU l x) && decide (0 <= codeU l y)
 | _=>false
def pairAt (l:List UInt8) (s:List UInt8):Nat:=
 match s with
 | [x,y]=>(codeU l x).toNat * l.length + (codeU l y).toNat
 | _=>0
def pairB (c:Ck) (e1 e2:Ex):Er Ck:=
 if c.had 2 = false then .error (94,c.pl)
 else match askQ (textQ (isPair c.letters)) c e1 with
  | .error f=>.error f
  | .ok (c1,m)=>
    if c1.subst.getD (pairAt c1.letters m.text) 0 ≠ -1 then .error (90,c1.pl)
    else singleB (fun c2 p=>{ c2 with subst:=c2.subst.set (pairAt c1.letters m.text) p }) c1 e2
def gapB (c:Ck) (e1 e2:Ex):Er Ck:=
 if c.pieces.length = 4 then .error (72,c.pl)
 else match costsB c e1 e2 with
  | .error f=>.error f
  | .ok (c1,p,q)=>.ok { c1 with pieces:=c1.pieces ++ [(p,q)] }
def clipB (c:Ck) (e1 e2:Ex):Er Ck:=
 match costsB c e1 e2 with
 | .error f=>.error f
 | .ok (c1,p,q)=>.ok { c1 with front:=p,back:=q }
def bandB (c:Ck) (e1 e2:Ex):Er Ck:=
 match askQ (numFrom (-maxK)) c e1 with
 | .error f=>.error f
 | .ok (c1,m1)=>
   match askQ (numFrom m1.num) c1 e2 with
   | .error f=>.error f
   | .ok (c2,m2)=>.ok { c2 with banded:=true,lo:=m1.place,hi:=m2.place }
def modeB (w:List UInt8):Int:=if w = [103,108,111,98,97,108] then 1 else if w = [102,105,116] then 2 else if w = [108,111,99,97,108] then 3 else 4
def arg1:Fo -> Ex
 | .nil=>(⟨0,0,[],0⟩,.nil)
 | .node _ _ h k _=>(h,k)
def arg2:Fo -> Ex
 | .nil=>(⟨0,0,[],0⟩,.nil)
 | .node _ _ _ _ r=>arg1 r
def twiceB (c:Ck) (i:It):Bool:=
 if i.kind = 1 then (lookN c.names i.name).isSome else if i.kind = 5 \/ i.kind = 6 then false else c.had i.kind.toNat
def putHad (h:Nat -> Bool) (k:Nat):Nat -> Bool:=fun i=>if i = k then true else h i
def bodyB (c:Ck) (i:It):Er Ck:=
 if i.kind = 1 then letB c i.name (arg1 i.args)
 else if i.kind = 2 then alphabetB c (arg1 i.args)
 else if i.kind = 5 then pairB c (arg1 i.args) (arg2 i.args)
 else if i.kind = 6 then gapB c (arg1 i.args) (arg2 i.args)
 else if i.kind = 7 then .ok { c with mode:=modeB i.name }
 else if i.kind = 8 then bandB c (arg1 i.args) (arg2 i.args)
 else if i.kind = 9 then clipB c (arg1 i.args) (arg2 i.args)
 else if i.kind = 3 then singleB (fun c p=>{ c with mat:=p }) c (arg1 i.args)
 else if i.kind = 4 then singleB (fun c p=>{ c with mis:=p }) c (arg1 i.args)
 else if i.kind = 10 then singleB (fun c p=>{ c with least:=p }) c (arg1 i.args)
 else .ok c
def takeC (c:Ck) (i:It):Er Ck:=
 if twiceB { c with pl:=i.pl } i then .error (90,i.pl)
 else bodyB { c with pl:=i.pl,had:=putHad c.had i.kind.toNat } i
def ck0:Ck:=⟨[],[],[],[],0,false,0,0,0,0,0,[],[],fun _=>false,0,-1,-1⟩
def takeAll:List It -> Ck -> Er Ck
 | [],c=>.ok c
 | i :: r,c=>match takeC c i with | .error f=>.error f | .ok c1=>takeAll r c1
/-- Each place of a table, by its number. -/
def fillGo (n:Nat) (mat mis:Int):Nat -> List Int -> List Int
 | _,[]=>[]
 | k,p :: r=>(if p ≠ -1 then p else if k / n = k % n then mat else mis) :: fillGo n mat mis (k + 1) r
def fillB (c:Ck):List Int:=fillGo c.letters.length c.mat c.mis 0 c.subst
def zeroB (c:Ck):Er (Ck × Mn):=layB c ⟨1,0,0,0⟩ c.pl
def endsB (c:Ck):Er Ck:=
 if c.had 2 = false \/ c.had 7 = false \/ -1 ∈ fillB c then .error (94,c.pl)
 else
  match (if c.had 9 = false then (match zeroB { c with subst:=fillB c } with | .error f=>.error f | .ok (c1,m)=>.ok { c1 with front:=m.place,back:=m.place }) else .ok { c with subst:=fillB c }:Er Ck) with
  | .error f=>.error f
  | .ok c1=>if c1.had 10 = false then (match zeroB c1 with | .error f=>.error f | .ok (c2,m)=>.ok { c2 with least:=m.place }) else .ok c1
def checkG (right:Bool) (L:List It):Er Ck:=
 if right = false then .error (80,0)
 else match takeAll L ck0 with
  | .error f=>.error f
  | .ok c=>endsB c
def aheadB (a p:Int):Bool:=decide (0 <= a /\ a < p)
/-- Whether a definition may stand at a place. -/
def defB (d:Df) (p:Int):Bool:=
 if d.op = 1 then decide (d.a = 0 /\ d.b = 0)
 else if d.op = 2 then decide (d.num = 0) && (aheadB d.a p && decide (d.b = 0))
 else if 3 <= d.op /\ d.op <= 7 then decide (d.num = 0) && (aheadB d.a p && aheadB d.b p)
 else false
def valF:List Df -> List Int -> Except Int (List Int)
 | [],vs=>.ok vs
 | d :: r,vs=>if defB d vs.length = false then .error 1 else if inB maxV (rawB vs d) = false then .error 93 else valF r (vs ++ [rawB vs d])
def valsB (l:List Df):List Int × Int:=
 if 5004 < l.length then ([],2)
 else match valF l [] with
  | .error e=>([],e)
  | .ok vs=>(vs,0)
def valE:Except Int (List Int) -> List Int × Int
 | .error e=>([],e)
 | .ok vs=>(vs,0)
theorem valsB_eq {l:List Df} (h:¬ 5004 < l.length):valsB l = valE (valF l []):=by
 unfold valsB
 rw [if_neg h]
 cases valF l [] <;> rfl
theorem valF_bad {d:Df} {r:List Df} {vs:List Int} (h:defB d vs.length = false):valF (d :: r) vs = .error 1:=by simp [valF,h]
theorem valF_far {d:Df} {r:List Df} {vs:List Int} (h:defB d vs.length = true) (h2:inB maxV (rawB vs d) = false):valF (d :: r) vs = .error 93:=by simp [valF,h,h2]
theorem valF_ok {d:Df} {r:List Df} {vs:List Int} (h:defB d vs.length = true) (h2:inB maxV (rawB vs d) = true):valF (d :: r) vs = valF r (vs ++ [rawB vs d]):=by simp [valF,h,h2]
theorem valF_len:∀ {l:List Df} {vs us:List Int},valF l vs = .ok us -> us.length = vs.length + l.length
 | [],vs,us,h=>by cases h; simp
 | d :: r,vs,us,h=>by
   simp only [valF] at h
   split at h
   ·cases h
   ·split at h
    ·cases h
    ·have:=valF_len h
     simp at this ⊢; omega
theorem valF_err:∀ {l:List Df} {vs:List Int} {e:Int},valF l vs = .error e -> e = 1 \/ e = 93
 | [],vs,e,h=>by cases h
 | d :: r,vs,e,h=>by
   simp only [valF] at h
   split at h
   ·cases h; exact .inl rfl
   ·split at h
    ·cases h; exact .inr rfl
    ·exact valF_err h
theorem valsB_len (l:List Df):(valsB l).2 = 0 -> (valsB l).1.length = l.length /\ l.length <= 5004:=by
 intro h
 unfold valsB at h ⊢
 split at h
 ·simp at h
 ·rename_i hl
  rw [if_neg hl]
  cases hv:valF l [] with
  | error e=>
    rw [hv] at h
    rcases valF_err hv with rfl | rfl <;> simp at h
  | ok vs=>
    have:=valF_len hv
    simp at this
    exact ⟨this,by omega⟩
theorem valsB_few (l:List Df):(valsB l).1.length <= 5004:=by
 by_cases h:(valsB l).2 = 0
 ·have:=valsB_len l h; omega
 ·unfold valsB at h ⊢
  split
  ·simp
  ·rename_i hl
   rw [if_neg hl] at h
   cases hv:valF l [] with
   | error e=>simp
   | ok vs=>rw [hv] at h; simp at h
end Go.Proofs.YtlaodgdlkkmmeaaGreat
