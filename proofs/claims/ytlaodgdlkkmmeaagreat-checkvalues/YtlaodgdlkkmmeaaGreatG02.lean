/-
  The grammar in plain lists of tokens: expressions as forests, items, sources; what is wrong, what is too many, and where. What a rule leaves of the tokens is an end of them.
-/
import Derived.Deep.Trees
import Derived.Test.YtlaodgdlkkmmeaaGreatPlain
namespace Go.Proofs.YtlaodgdlkkmmeaaGreat
open Go.Deep
/-- What an expression has besides its Kids. -/
structure Hd where
 kind:Int
 num:Int
 text:List UInt8
 pl:Int
/-- A list of expressions: the first one's head, its Kids, the others. -/
abbrev Fo:=BT Hd
abbrev Ex:=Hd × Fo
def nd (h:Hd) (k r:Fo):Fo:=.node 0 0 h k r
def ofL:List Ex -> Fo
 | []=>.nil
 | e :: r=>nd e.1 e.2 (ofL r)
def lenF:Fo -> Nat
 | .nil=>0
 | .node _ _ _ _ r=>lenF r + 1
def szF:Fo -> Nat
 | .nil=>0
 | .node _ _ _ k r=>szF k + szF r + 1
/-- What a rule of the grammar says of tokens: what was read, or nothing where something is wrong; where it stands then; the places of what is too many. -/
structure Rs (α:Type) where
 val:Option α
 rest:List Tk
 many:List Int
def Rs.bind {α β:Type} (x:Rs α) (f:α -> List Tk -> Rs β):Rs β:=
 match x.val with
 | none=>⟨none,x.rest,x.many⟩
 | some a=>⟨(f a x.rest).val,(f a x.rest).rest,x.many ++ (f a x.rest).many⟩
def Rs.map {α β:Type} (x:Rs α) (f:α -> β):Rs β:=⟨x.val.map f,x.rest,x.many⟩
def pure' {α:Type} (a:α) (l:List Tk):Rs α:=⟨some a,l,[]⟩
def wrong' {α:Type} (l:List Tk):Rs α:=⟨none,l,[]⟩
def plOf:List Tk -> Int
 | []=>0
 | t :: _=>t.pl
theorem bind_none {α β:Type} {x:Rs α} (f:α -> List Tk -> Rs β) (h:x.val = none):x.bind f = ⟨none,x.rest,x.many⟩:=by
 unfold Rs.bind; rw [h]
theorem bind_some {α β:Type} {x:Rs α} (f:α -> List Tk -> Rs β) {a:α} (h:x.val = some a):x.bind f = ⟨(f a x.rest).val,(f a x.rest).rest,x.many ++ (f a x.rest).many⟩:=by
 unfold Rs.bind; rw [h]
def isT (k:Int) (s:List UInt8) (t:Tk):Bool:=decide (t.kind = k) && decide (t.text = s)
def signG (s:List UInt8):List Tk -> Rs Unit
 | []=>wrong' []
 | t :: r=>if isT 6 s t then pure' () r else wrong' (t :: r)
def mx:Nat:=4001
def hdB (k:Int) (t:Tk):Hd:=⟨k,0,[],t.pl⟩
def termGo (fac:List Tk -> Rs Ex):Nat -> Ex -> List Tk -> Rs Ex
 | 0,e,l=>pure' e l
 | _ + 1,e,[]=>pure' e []
 | m + 1,e,t :: r=>if isT 6 [42] t then (fac r).bind fun e2 l2=>termGo fac m (hdB 7 t,ofL [e,e2]) l2 else pure' e (t :: r)
def termG (fac:List Tk -> Rs Ex) (l:List Tk):Rs Ex:=(fac l).bind (termGo fac mx)
def exprGo (trm:List Tk -> Rs Ex):Nat -> Ex -> List Tk -> Rs Ex
 | 0,e,l=>pure' e l
 | _ + 1,e,[]=>pure' e []
 | m + 1,e,t :: r=>if isT 6 [43] t || isT 6 [45] t then (trm r).bind fun e2 l2=>exprGo trm m (hdB (if isT 6 [45] t then 6 else 5) t,ofL [e,e2]) l2 else pure' e (t :: r)
def exprG (fac:List Tk -> Rs Ex) (l:List Tk):Rs Ex:=(termG fac l).bind (exprGo (termG fac) mx)
/-- One more is read: its place is told if there are as many as may be. -/
def note {α:Type} (b:Bool) (l:List Tk) (x:Rs α):Rs α:=if b then ⟨x.val,x.rest,plOf l :: x.many⟩ else x
def kidsGo (ex:List Tk -> Rs Ex):Nat -> List Ex -> List Tk -> Rs (List Ex)
 | 0,ks,l=>pure' ks l
 | _ + 1,ks,[]=>pure' ks []
 | m + 1,ks,t :: r=>if isT 6 [44] t then note (decide (ks.length = 8)) r ((ex r).bind fun e l2=>kidsGo ex m (ks ++ [e]) l2) else pure' ks (t :: r)
def closeG {α:Type} (s:List UInt8) (x:Rs α):Rs α:=x.bind fun a l=>(signG s l).bind fun _ l2=>pure' a l2
def kidsG (ex:List Tk -> Rs Ex) (l:List Tk):Rs (List Ex):=
 (signG [40] l).bind fun _ l1=>closeG [41] ((ex l1).bind fun e l2=>kidsGo ex mx [e] l2)
def wMin:List UInt8:=[109,105,110]
def wMax:List UInt8:=[109,97,120]
def facN:Nat -> List Tk -> Rs Ex
 | 0,l=>wrong' l
 | _ + 1,[]=>wrong' []
 | n + 1,t :: r=>
   if t.kind = 2 then pure' (⟨1,t.num,[],t.pl⟩,.nil) r
   else if t.kind = 3 then pure' (⟨2,0,t.text,t.pl⟩,.nil) r
   else if t.kind = 5 then pure' (⟨3,0,t.text,t.pl⟩,.nil) r
   else if isT 6 [45] t then (facN n r).map fun e=>(hdB 4 t,ofL [e])
   else if isT 6 [40] t then closeG [41] (exprG (facN n) r)
   else if isT 4 wMin t then (kidsG (exprG (facN n)) r).map fun ks=>(hdB 8 t,ofL ks)
   else if isT 4 wMax t then (kidsG (exprG (facN n)) r).map fun ks=>(hdB 9 t,ofL ks)
   else wrong' (t :: r)
def exprN (n:Nat) (l:List Tk):Rs Ex:=exprG (facN n) l
/-- An item. -/
structure It where
 kind:Int
 name:List UInt8
 args:Fo
 pl:Int
def itemKindB (w:List UInt8):Int:=
 if w = [108,101,116] then 1 else if w = [97,108,112,104,97,98,101,116] then 2 else if w = [109,97,116,99,104] then 3
 else if w = [109,105,115,109,97,116,99,104] then 4 else if w = [112,97,105,114] then 5 else if w = [103,97,112] then 6
 else if w = [109,111,100,101] then 7 else if w = [98,97,110,100] then 8 else if w = [99,108,105,112] then 9 else if w = [108,101,97,115,116] then 10 else 0
def isWayB (w:List UInt8):Bool:=decide (w = [103,108,111,98,97,108]) || decide (w = [102,105,116]) || decide (w = [108,111,99,97,108]) || decide (w = [101,120,116,101,110,100])
def nameG:List Tk -> Rs (List UInt8)
 | []=>wrong' []
 | t :: r=>if t.kind = 3 then pure' t.text r else wrong' (t :: r)
def wayG:List Tk -> Rs (List UInt8)
 | []=>wrong' []
 | t :: r=>if t.kind = 4 /\ isWayB t.text = true then pure' t.text r else wrong' (t :: r)
def bothG (ex:List Tk -> Rs Ex) (s:List UInt8) (l:List Tk):Rs Fo:=
 (ex l).bind fun a l1=>(signG s l1).bind fun _ l2=>(ex l2).bind fun b l3=>pure' (ofL [a,b]) l3
def oneG (ex:List Tk -> Rs Ex) (l:List Tk):Rs Fo:=(ex l).bind fun a l1=>pure' (ofL [a]) l1
/-- What stands behind an item's word: its name and its expressions. -/
def bodyG (ex:List Tk -> Rs Ex) (k:Int) (l:List Tk):Rs (List UInt8 × Fo):=
 if k = 1 then (nameG l).bind fun s l1=>(signG [61] l1).bind fun _ l2=>(oneG ex l2).bind fun f l3=>pure' (s,f) l3
 else if k = 7 then (wayG l).bind fun s l1=>pure' (s,.nil) l1
 else if k = 8 then (bothG ex [46,46] l).bind fun f l1=>pure' ([],f) l1
 else if k = 5 \/ k = 6 \/ k = 9 then (bothG ex [44] l).bind fun f l1=>pure' ([],f) l1
 else (oneG ex l).bind fun f l1=>pure' ([],f) l1
def itemG (ex:List Tk -> Rs Ex):List Tk -> Rs It
 | []=>wrong' []
 | t :: r=>if t.kind = 4 /\ itemKindB t.text ≠ 0 then (closeG [59] (bodyG ex (itemKindB t.text) r)).map fun b=>⟨itemKindB t.text,b.1,b.2,t.pl⟩ else wrong' (t :: r)
def sourceGo (ex:List Tk -> Rs Ex):Nat -> List It -> List Tk -> Rs (List It)
 | 0,its,l=>pure' its l
 | _ + 1,its,[]=>pure' its []
 | m + 1,its,t :: r=>if t.kind = 1 then pure' its (t :: r) else
   note (decide (its.length = 100)) (t :: r) ((itemG ex (t :: r)).bind fun i l2=>sourceGo ex m (its ++ [i]) l2)
def sourceG (l:List Tk):Rs (List It):=sourceGo (exprN mx) mx [] l
/-- A fault that stands, and places of what is too many behind it. -/
def flt (m:List Int) (f:Int × Int):Int × Int:=if f.1 = 0 then (match m with | []=>f | a :: _=>(72,a)) else f
theorem flt_nil (f:Int × Int):flt [] f = f:=by unfold flt; split <;> rfl
theorem flt_append (m n:List Int) (f:Int × Int):flt (m ++ n) f = flt n (flt m f):=by
 unfold flt
 cases m with
 | nil=>simp
 | cons a r=>by_cases h:f.1 = 0 <;> simp [h]
theorem bind_suf {α β:Type} {x:Rs α} {f:α -> List Tk -> Rs β} {l:List Tk} (h:x.rest <:+ l) (hf:∀ a,(f a x.rest).rest <:+ x.rest):(x.bind f).rest <:+ l:=by
 cases hx:x.val with
 | none=>rw [bind_none _ hx]; exact h
 | some a=>rw [bind_some _ hx]; exact (hf a).trans h
theorem note_suf {α:Type} {c:Bool} {l l':List Tk} {x:Rs α} (h:x.rest <:+ l'):(note c l x).rest <:+ l':=by
 unfold note; split <;> exact h
theorem sign_suf (s:List UInt8) (l:List Tk):(signG s l).rest <:+ l:=by
 cases l with
 | nil=>exact List.suffix_refl _
 | cons t r=>
   show (if isT 6 s t = true then pure' () r else wrong' (t :: r)).rest <:+ _
   split
   ·exact List.suffix_cons _ _
   ·exact List.suffix_refl _
theorem close_suf {α:Type} {s:List UInt8} {x:Rs α} {l:List Tk} (h:x.rest <:+ l):(closeG s x).rest <:+ l:=
 bind_suf h fun _=>bind_suf (sign_suf s _) fun _=>List.suffix_refl _
section
variable {fac:List Tk -> Rs Ex} (hf:∀ l,(fac l).rest <:+ l)
theorem termGo_suf (hf:∀ l,(fac l).rest <:+ l):∀ (m:Nat) (e:Ex) (l:List Tk),(termGo fac m e l).rest <:+ l
 | 0,e,l=>List.suffix_refl _
 | _ + 1,e,[]=>List.suffix_refl _
 | m + 1,e,t :: r=>by
   rw [termGo]
   split
   ·exact (bind_suf (hf r) fun a=>termGo_suf hf m _ _).trans (List.suffix_cons _ _)
   ·exact List.suffix_refl _
theorem term_suf (hf:∀ l,(fac l).rest <:+ l) (l:List Tk):(termG fac l).rest <:+ l:=bind_suf (hf l) fun _=>termGo_suf hf _ _ _
theorem exprGo_suf (hf:∀ l,(fac l).rest <:+ l):∀ (m:Nat) (e:Ex) (l:List Tk),(exprGo fac m e l).rest <:+ l
 | 0,e,l=>List.suffix_refl _
 | _ + 1,e,[]=>List.suffix_refl _
 | m + 1,e,t :: r=>by
   rw [exprGo]
   split
   ·exact (bind_suf (hf r) fun a=>exprGo_suf hf m _ _).trans (List.suffix_cons _ _)
   ·exact List.suffix_refl _
theorem expr_suf (hf:∀ l,(fac l).rest <:+ l) (l:List Tk):(exprG fac l).rest <:+ l:=bind_suf (term_suf hf l) fun _=>exprGo_suf (term_suf hf) _ _ _
theorem kidsGo_suf (hf:∀ l,(fac l).rest <:+ l):∀ (m:Nat) (ks:List Ex) (l:List Tk),(kidsGo fac m ks l).rest <:+ l
 | 0,e,l=>List.suffix_refl _
 | _ + 1,e,[]=>List.suffix_refl _
 | m + 1,e,t :: r=>by
   rw [kidsGo]
   split
   ·exact (note_suf (bind_suf (hf r) fun a=>kidsGo_suf hf m _ _)).trans (List.suffix_cons _ _)
   ·exact List.suffix_refl _
theorem kids_suf (hf:∀ l,(fac l).rest <:+ l) (l:List Tk):(kidsG fac l).rest <:+ l:=
 bind_suf (sign_suf _ l) fun _=>close_suf (bind_suf (hf _) fun _=>kidsGo_suf hf _ _ _)
end
theorem fac_suf:∀ (n:Nat) (l:List Tk),(facN n l).rest <:+ l
 | 0,l=>List.suffix_refl _
 | _ + 1,[]=>List.suffix_refl _
 | n + 1,t :: r=>by
   have h:=fac_suf n
   rw [facN]
   repeat' split
   all_goals first
    | exact List.suffix_cons _ _
    | exact List.suffix_refl _
    | exact (h r).trans (List.suffix_cons _ _)
    | exact (close_suf (expr_suf h r)).trans (List.suffix_cons _ _)
    | exact (kids_suf (expr_suf h) r).trans (List.suffix_cons _ _)
theorem suf_len {a b:List Tk} (h:a <:+ b):a.length <= b.length:=h.length_le
end Go.Proofs.YtlaodgdlkkmmeaaGreat
