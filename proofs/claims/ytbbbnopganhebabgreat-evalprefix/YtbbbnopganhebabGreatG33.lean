/-
  What a recurrence says of two sequences: in plain lists. What a recurrence says of two sequences, in plain lists: what a state has comes from an edge, is bounded, and is no less where more cells count. A field in memory, and what its small functions tell.
-/
import Derived.Laws.BitsLemmas
import Derived.BigQuiet
import Derived.Deep.QuietTactic
import Derived.Test.YtbbbnopganhebabGreatG32
namespace Go.Proofs.YtbbbnopganhebabGreat
open Go.RowKit Go.Deep Go.Maps
/-- A recurrence, its definitions' numbers, two sequences. -/
structure Fe where
 r:Rc
 vs:List Int
 xs:List Int
 ys:List Int
abbrev Tb:=Int -> Int -> Int -> Option Int
def bandE (r:Rc) (i j:Int):Bool:=!r.banded || (decide (r.lo <= j - i) && decide (j - i <= r.hi))
def allowE (k:Int) (row col:Bool):Bool:=if k = 1 then row && col else if k = 2 then col else true
def costE (vs:List Int) (c:Int):Int:=if c = -1 then 0 else vAt vs c
def subE (F:Fe) (i j:Int):Int:=vAt F.vs (vAt F.r.subst (F.r.letters * vAt F.xs (i - 1) + vAt F.ys (j - 1)))
def dnE (k:Int):Int:=if k = 1 then 1 else if k = 2 then 1 else 0
def ovE (k:Int):Int:=if k = 1 then 1 else if k = 2 then 0 else 1
def addE (F:Fe) (k c i j n:Int):Int:=if k = 1 then wrap64 (wrap64 (n - costE F.vs c) + subE F i j) else wrap64 (n - costE F.vs c)
def givenE (F:Fe) (G:Tb) (k:Int) (e:Int × Int) (i j:Int):Option Int:=(G (i - dnE k) (j - ovE k) e.1).map (addE F k e.2 i j)
/-- The greater of two that may be. -/
def pickE (a b:Option Int):Option Int:=
 match b,a with
 | none,a=>a
 | some n,none=>some n
 | some n,some m=>if m < n then some n else some m
def greatE (F:Fe) (G:Tb) (k i j:Int) (a:Option Int) (es:List (Int × Int)):Option Int:=es.foldl (fun a e=>pickE a (givenE F G k e i j)) a
def startE (F:Fe) (i j:Int):Option Int:=if allowE F.r.beg (decide (i = 0)) (decide (j = 0)) then some (if j = 0 then 0 else wrap64 (- vAt F.vs F.r.front)) else none
/-- What a state, or the beginning, has at a cell, by so many steps. -/
def vlN (F:Fe):Nat -> Tb
 | 0,_,_,_=>none
 | n + 1,i,j,s=>
   if i < 0 \/ j < 0 \/ bandE F.r i j = false then none
   else if s = -1 then startE F i j
   else if s < 0 then none
   else match F.r.states[s.toNat]? with
    | none=>none
    | some st=>greatE F (vlN F n) st.1 i j none st.2
def vlE (F:Fe):Tb:=fun i j s=>vlN F (i + j + 1).toNat i j s
theorem dn_ov (k:Int):0 <= dnE k /\ 0 <= ovE k /\ 1 <= dnE k + ovE k /\ dnE k <= 1 /\ ovE k <= 1:=by
 unfold dnE ovE
 split
 ·omega
 ·split <;> omega
theorem great_same {F:Fe} {G G':Tb} {k i j:Int} (h:∀ s,G (i - dnE k) (j - ovE k) s = G' (i - dnE k) (j - ovE k) s) (a:Option Int) (es:List (Int × Int)):greatE F G k i j a es = greatE F G' k i j a es:=by
 unfold greatE
 congr 1
 funext a e
 unfold givenE
 rw [h]
theorem vlN_neg {F:Fe} {n:Nat} {i j s:Int} (h:i < 0 \/ j < 0):vlN F n i j s = none:=by
 cases n with
 | zero=>rfl
 | succ n=>rw [vlN,if_pos (by rcases h with h | h <;> simp [h])]
theorem vlN_eq (F:Fe):∀ (n m:Nat) (i j s:Int),i + j < n -> i + j < m -> vlN F n i j s = vlN F m i j s
 | 0,m,i,j,s,h,_=>by rw [vlN_neg (by omega),vlN_neg (by omega)]
 | n + 1,0,i,j,s,_,h=>by rw [vlN_neg (by omega),vlN_neg (by omega)]
 | n + 1,m + 1,i,j,s,h1,h2=>by
   rw [vlN,vlN]
   split
   ·rfl
   ·split
    ·rfl
    ·split
     ·rfl
     ·split
      ·rfl
      ·next st _=>
       refine great_same (fun s=>vlN_eq F n m _ _ s ?_ ?_) none st.2
       ·have:=dn_ov st.1; omega
       ·have:=dn_ov st.1; omega
theorem vlE_neg {F:Fe} {i j s:Int} (h:i < 0 \/ j < 0):vlE F i j s = none:=vlN_neg h
theorem vlE_eq (F:Fe) (i j s:Int):vlE F i j s =
 if i < 0 \/ j < 0 \/ bandE F.r i j = false then none
 else if s = -1 then startE F i j
 else if s < 0 then none
 else match F.r.states[s.toNat]? with
  | none=>none
  | some st=>greatE F (vlE F) st.1 i j none st.2:=by
 by_cases h:i < 0 \/ j < 0
 ·rw [vlE_neg h,if_pos (by rcases h with h | h <;> simp [h])]
 ·have hij:0 <= i /\ 0 <= j:=by omega
  unfold vlE
  rw [show (i + j + 1).toNat = (i + j).toNat + 1 by omega,vlN]
  split
  ·rfl
  ·split
   ·rfl
   ·split
    ·rfl
    ·split
     ·rfl
     ·next st _=>
      refine great_same (fun s=>?_) none st.2
      have:=dn_ov st.1
      by_cases hn:i - dnE st.1 < 0 \/ j - ovE st.1 < 0
      ·rw [vlN_neg hn]; exact (vlE_neg hn).symm
      ·exact vlN_eq F _ _ _ _ s (by omega) (by omega)
theorem vlE_off {F:Fe} {i j s:Int} (h:bandE F.r i j = false):vlE F i j s = none:=by rw [vlE_eq,if_pos (.inr (.inr h))]
theorem vlE_start {F:Fe} {i j:Int} (hi:0 <= i) (hj:0 <= j) (h:bandE F.r i j = true):vlE F i j (-1) = startE F i j:=by
 rw [vlE_eq,if_neg (by simp [h]; omega),if_pos rfl]
theorem vlE_state {F:Fe} {i j:Int} {k:Nat} {st:St} (hi:0 <= i) (hj:0 <= j) (h:bandE F.r i j = true) (hk:F.r.states[k]? = some st):vlE F i j (k:Int) = greatE F (vlE F) st.1 i j none st.2:=by
 rw [vlE_eq,if_neg (by simp [h]; omega),if_neg (by omega),if_neg (by omega),Int.toNat_natCast,hk]
theorem vlE_none {F:Fe} {i j s:Int} (h:s < -1 \/ (F.r.states.length:Int) <= s):vlE F i j s = none:=by
 rw [vlE_eq]
 split
 ·rfl
 ·rw [if_neg (by omega)]
  split
  ·rfl
  ·rw [List.getElem?_eq_none (by omega)]
/-- The sets of states, a bit each. -/
def bitE (s:Int):Nat:=2 ^ (s + 1).toNat
def withE (S:Nat) (s:Int):Nat:=S ||| bitE s
def hasE (S:Nat) (s:Int):Bool:=S.testBit (s + 1).toNat
/-- What it costs to end in a column. -/
def backE (F:Fe) (j:Int):Int:=if j = F.ys.length then 0 else vAt F.vs F.r.back
def endsE (F:Fe) (i j:Int):Bool:=allowE F.r.fin (decide (i = F.xs.length)) (decide (j = F.ys.length))
abbrev En:=Int × Int × Int × Nat
def endS (F:Fe) (G:Tb) (i j:Int) (a:Option En) (s:Int):Option En:=
 match G i j s with
 | none=>a
 | some v=>
   let n:=wrap64 (v - backE F j)
   match a with
   | none=>some (i,j,n,withE 0 s)
   | some b=>if b.2.2.1 < n then some (i,j,n,withE 0 s) else if n = b.2.2.1 then some (b.1,b.2.1,b.2.2.1,withE b.2.2.2 s) else some b
def endE (F:Fe) (G:Tb) (i j:Int):Option En:=if endsE F i j then (List.range (F.r.states.length + 1)).foldl (fun a (k:Nat)=>endS F G i j a ((k:Int) - 1)) none else none
def overE (a b:Option En):Option En:=
 match b,a with
 | none,a=>a
 | some n,none=>some n
 | some n,some m=>if m.2.2.1 < n.2.2.1 then some n else some m
def rowE (F:Fe) (G:Tb) (i:Int) (a:Option En):Option En:=(List.range (F.ys.length + 1)).foldl (fun a (j:Nat)=>overE a (endE F G i (j:Int))) a
def bestE (F:Fe) (G:Tb):Option En:=(List.range (F.xs.length + 1)).foldl (fun a (i:Nat)=>rowE F G (i:Int) a) none
/-- The least kind of some states. -/
def leastE (sts:List St) (S:Nat):Int:=(List.range sts.length).foldl (fun m (k:Nat)=>if hasE S (k:Int) then min m (sts.getD k (0,[])).1 else m) 3
def fromS (F:Fe) (G:Tb) (kind i j:Int) (v:Int) (A:Nat) (e:Int × Int):Nat:=if givenE F G kind e i j = some v then withE A e.1 else A
def aheadS (F:Fe) (G:Tb) (S:Nat) (kind i j:Int) (A:Nat) (k:Nat):Nat:=
 let st:=F.r.states.getD k (0,[])
 if st.1 = kind /\ hasE S (k:Int) = true then st.2.foldl (fromS F G kind i j ((G i j (k:Int)).getD 0)) A else A
/-- The states ahead, and the beginning, that give those of a kind their values. -/
def aheadE (F:Fe) (G:Tb) (S:Nat) (kind i j:Int):Nat:=(List.range F.r.states.length).foldl (aheadS F G S kind i j) 0
def letE (k:Int):UInt8:=if k = 1 then 77 else if k = 2 then 68 else 73
def backN (F:Fe) (G:Tb):Nat -> Int -> Int -> Nat -> List UInt8 -> Int × Int × List UInt8
 | 0,i,j,_,cs=>(i,j,cs)
 | n + 1,i,j,S,cs=>
   if hasE S (-1) then (i,j,cs)
   else
    let k:=leastE F.r.states S
    backN F G n (i - dnE k) (j - ovE k) (aheadE F G S k i j) (letE k :: cs)
def pathE (F:Fe) (G:Tb) (e:En):Int × Int × List UInt8:=backN F G (e.1 + e.2.1 + 1).toNat e.1 e.2.1 e.2.2.2 []
/-- The widest number, and the error. -/
def widE (r:Rc) (vs:List Int):Int:=
 let w1:=r.subst.foldl (fun w p=>max w (max (vAt vs p) (- vAt vs p))) 1
 let w2:=r.states.foldl (fun w s=>s.2.foldl (fun w e=>max w (max (costE vs e.2) (- costE vs e.2))) w) w1
 max w2 (max (vAt vs r.front) (vAt vs r.back))
def letsE (n:Int) (xs:List Int):Bool:=xs.all fun x=>inI x 0 (n - 1)
def errE (r:Rc) (xs ys:List Int):Int:=
 if rightR r = false then 120
 else if letsE r.letters xs = false \/ letsE r.letters ys = false then 11
 else if 65536 < max (xs.length:Int) ys.length \/ 4611686018427387904 / widE r (valsB r.defs).1 < (xs.length:Int) + ys.length + 4 then 170
 else if 1048576 < ((xs.length:Int) + 1) * ((ys.length:Int) + 1) then 131
 else 0
def feOf (r:Rc) (xs ys:List Int):Fe:=⟨r,(valsB r.defs).1,xs,ys⟩
/-- What Score tells, and what Eval tells. -/
def scoreE (r:Rc) (xs ys:List Int):Int × Int:=
 if errE r xs ys ≠ 0 then (0,errE r xs ys)
 else match bestE (feOf r xs ys) (vlE (feOf r xs ys)) with
  | none=>(0,130)
  | some e=>(e.2.2.1,0)
def evalE (r:Rc) (xs ys:List Int):(Int × Int × Int × List UInt8) × Int:=
 if errE r xs ys ≠ 0 then ((0,0,0,[]),errE r xs ys)
 else match bestE (feOf r xs ys) (vlE (feOf r xs ys)) with
  | none=>((0,0,0,[]),130)
  | some e=>((e.2.2.1,pathE (feOf r xs ys) (vlE (feOf r xs ys)) e),0)
/-- What Value tells. -/
def valueE (r:Rc) (xs ys:List Int) (s i j:Int):Int × Bool × Int:=
 if errE r xs ys ≠ 0 then (0,false,errE r xs ys)
 else if s < -1 \/ (r.states.length:Int) <= s \/ i < 0 \/ (xs.length:Int) < i \/ j < 0 \/ (ys.length:Int) < j then (0,false,1)
 else ((vlE (feOf r (xs.take i.toNat) (ys.take j.toNat)) i j s).getD 0,(vlE (feOf r (xs.take i.toNat) (ys.take j.toNat)) i j s).isSome,0)
theorem pick_some {a b:Option Int} {v:Int} (h:pickE a b = some v):a = some v \/ b = some v:=by
 unfold pickE at h
 split at h
 ·exact .inl h
 ·exact .inr h
 ·split at h
  ·exact .inr h
  ·exact .inl h
theorem great_some {F:Fe} {G:Tb} {k i j v:Int}:∀ {es:List (Int × Int)} {a:Option Int},greatE F G k i j a es = some v -> a = some v \/ ∃ e ∈ es,givenE F G k e i j = some v
 | [],a,h=>.inl h
 | e :: es,a,h=>by
   rcases great_some (es:=es) (a:=pickE a (givenE F G k e i j)) h with h | ⟨e',he,h⟩
   ·rcases pick_some h with h | h
    ·exact .inl h
    ·exact .inr ⟨e,by simp,h⟩
   ·exact .inr ⟨e',by simp [he],h⟩
theorem given_some {F:Fe} {G:Tb} {k i j v:Int} {e:Int × Int} (h:givenE F G k e i j = some v):∃ n,G (i - dnE k) (j - ovE k) e.1 = some n /\ v = addE F k e.2 i j n:=by
 unfold givenE at h
 match hg:G (i - dnE k) (j - ovE k) e.1,h with
 | some n,h=>simp at h; exact ⟨n,rfl,h.symm⟩
 | none,h=>cases h
/-- A value of a state comes from an edge. -/
theorem vlE_from {F:Fe} {i j v:Int} {k:Nat} (h:vlE F i j (k:Int) = some v):0 <= i /\ 0 <= j /\ bandE F.r i j = true /\ ∃ st,F.r.states[k]? = some st /\ ∃ e ∈ st.2,givenE F (vlE F) st.1 e i j = some v:=by
 rw [vlE_eq] at h
 split at h
 ·cases h
 ·next hn=>
  rw [if_neg (by omega),if_neg (by omega),Int.toNat_natCast] at h
  split at h
  ·cases h
  ·next st hst=>
   rcases great_some h with h | ⟨e,he,h⟩
   ·cases h
   ·refine ⟨by omega,by omega,?_,st,hst,e,he,h⟩
    cases hb:bandE F.r i j with
    | true=>rfl
    | false=>exact absurd (.inr (.inr hb)) hn
theorem vlE_in {F:Fe} {i j s v:Int} (h:vlE F i j s = some v):0 <= i /\ 0 <= j /\ bandE F.r i j = true /\ -1 <= s /\ s < F.r.states.length:=by
 have h0:=h
 rw [vlE_eq] at h
 split at h
 ·cases h
 ·next hn=>
  refine ⟨by omega,by omega,?_,?_⟩
  ·cases hb:bandE F.r i j with
   | true=>rfl
   | false=>exact absurd (.inr (.inr hb)) hn
  ·by_cases hs:s < -1 \/ (F.r.states.length:Int) <= s
   ·rw [vlE_none hs] at h0; cases h0
   ·omega
theorem wrap_id {n:Int} (h1:-9223372036854775808 <= n) (h2:n <= 9223372036854775807):wrap64 n = n:=by unfold wrap64; omega
/-- How great numbers may be at once. -/
structure BdE (F:Fe) (W:Int):Prop where
 one:1 <= W
 room:W * ((F.xs.length:Int) + F.ys.length + 4) <= 4611686018427387904
 cost:∀ st ∈ F.r.states,∀ e ∈ st.2,-W <= costE F.vs e.2 /\ costE F.vs e.2 <= W
 sub:∀ i j:Int,1 <= i -> i <= F.xs.length -> 1 <= j -> j <= F.ys.length -> -W <= subE F i j /\ subE F i j <= W
 front:0 <= vAt F.vs F.r.front /\ vAt F.vs F.r.front <= W
 back:0 <= vAt F.vs F.r.back /\ vAt F.vs F.r.back <= W
open Go.Value renaming int->I
open Go.IntKind renaming i64->J
set_option maxRecDepth 20000
set_option maxHeartbeats 2000000
structure Sq where
 a:Option Addr
 n:Nat
 c:Nat
structure Fx where
 d:Sq
 s:Sq
 t:Sq
 v:Sq
 x:Sq
 y:Sq
/-- What is so of a recurrence that is right, and of two sequences of its letters. -/
structure FeR (F:Fe):Prop where
 lo:2 <= F.r.letters
 hi:F.r.letters <= 20
 count:(F.r.subst.length:Int) = F.r.letters * F.r.letters
 places:∀ p ∈ F.r.subst,0 <= p /\ p < F.vs.length
 front:0 <= F.r.front /\ F.r.front < F.vs.length
 back:0 <= F.r.back /\ F.r.back < F.vs.length
 few:F.r.states.length <= 9
 kinds:∀ st ∈ F.r.states,1 <= st.1 /\ st.1 <= 3
 edges:∀ st ∈ F.r.states,∀ e ∈ st.2,(-1 <= e.1 /\ e.1 < F.r.states.length) /\ (e.2 = -1 \/ (0 <= e.2 /\ e.2 < F.vs.length))
 xs:∀ x ∈ F.xs,0 <= x /\ x < F.r.letters
 ys:∀ x ∈ F.ys,0 <= x /\ x < F.r.letters
 vals:∀ v ∈ F.vs,-maxV <= v /\ v <= maxV
structure FeOk (F:Fe):Prop extends FeR F where
 lx:F.xs.length <= 65536
 ly:F.ys.length <= 65536
 cells:(F.xs.length + 1) * (F.ys.length + 1) <= 1048576
/-- What a field leads to. -/
structure FcM (w:World) (F:Fe) (A:Fx):Prop where
 subst:IntA w A.s.a A.s.n F.r.subst
 states:StsAt w A.t.a A.t.n F.r.states
 vals:IntA w A.v.a A.v.n F.vs
 xs:IntA w A.x.a A.x.n F.xs
 ys:IntA w A.y.a A.y.n F.ys
theorem FcM.below {w w':World} {F:Fe} {A:Fx} (h:FcM w F A) (hb:Below w.heap.size w w'):FcM w' F A:=⟨h.subst.below hb,h.states.below hb,h.vals.below hb,h.xs.below hb,h.ys.below hb⟩
/-- A field's fourteen cells, from a block's first cell on, and what they lead to. -/
structure FcAt (w:World) (b:Nat) (F:Fe) (A:Fx):Prop extends FcM w F A where
 c0:w.cell? ⟨b,0,none⟩ = some (I J F.r.letters)
 c2:w.cell? ⟨b,2,none⟩ = some (.slice A.s.a A.s.n A.s.c)
 c3:w.cell? ⟨b,3,none⟩ = some (I J F.r.beg)
 c4:w.cell? ⟨b,4,none⟩ = some (I J F.r.fin)
 c5:w.cell? ⟨b,5,none⟩ = some (I J F.r.front)
 c6:w.cell? ⟨b,6,none⟩ = some (I J F.r.back)
 c7:w.cell? ⟨b,7,none⟩ = some (.bool F.r.banded)
 c8:w.cell? ⟨b,8,none⟩ = some (I J F.r.lo)
 c9:w.cell? ⟨b,9,none⟩ = some (I J F.r.hi)
 c10:w.cell? ⟨b,10,none⟩ = some (.slice A.t.a A.t.n A.t.c)
 c11:w.cell? ⟨b,11,none⟩ = some (.slice A.v.a A.v.n A.v.c)
 c12:w.cell? ⟨b,12,none⟩ = some (.slice A.x.a A.x.n A.x.c)
 c13:w.cell? ⟨b,13,none⟩ = some (.slice A.y.a A.y.n A.y.c)
theorem FcAt.lt {w:World} {b:Nat} {F:Fe} {A:Fx} (h:FcAt w b F A):b < w.heap.size:=World.block_lt_of_cell? w _ h.c0
theorem FcAt.below {w w':World} {b:Nat} {F:Fe} {A:Fx} (h:FcAt w b F A) (hb:Below w.heap.size w w'):FcAt w' b F A:=
 ⟨h.toFcM.below hb,keepc hb h.c0,keepc hb h.c2,keepc hb h.c3,keepc hb h.c4,keepc hb h.c5,keepc hb h.c6,keepc hb h.c7,keepc hb h.c8,keepc hb h.c9,keepc hb h.c10,keepc hb h.c11,keepc hb h.c12,keepc hb h.c13⟩
theorem FcAt.val {w:World} {b:Nat} {F:Fe} {A:Fx} (h:FcAt w b F A) {q:Nat} (hq:q < F.vs.length):∃ g o,A.v.a = some ⟨g,o,none⟩ /\ w.cell? ⟨g,o + q,none⟩ = some (I J (vAt F.vs q)) /\ g < w.heap.size /\ q < A.v.n /\ A.v.n <= 9223372036854775807:=by
 obtain ⟨g,o,e,hc⟩:=h.vals.isI q _ (vAt_get hq)
 have:=h.vals.short
 unfold maxLen at this
 exact ⟨g,o,e,hc,World.block_lt_of_cell? w _ hc,by rw [<- h.vals.length]; exact hq,this⟩
theorem cost_calls {F:Fe} {A:Fx} {b:Nat} (s c:Int) (w:World) (h:FcAt w b F A) (hc:c = -1 \/ (0 <= c /\ c < F.vs.length)) :
 Calls Tryz.prog 73 #[.pointer (some ⟨b,0,none⟩),.agg #[I J s,I J c]] w fun e w'=>e = .returned (I J (costE F.vs c)) /\ Below w.heap.size w w':=by
 have HB:Hid (∀ o,Below w.heap.size w (w.alloc o)):=fun o=>(Below.refl _ _).alloc (Nat.le_refl _) o
 by_cases h1:c = -1
 ·subst h1
  have k:((-1:Int) == -1) = true:=rfl
  go_enter Tryz.func73,Tryz.ntmps73
  go_wp2
  go_ret
  exact ⟨rfl,HB.out _⟩
 ·have k:(c == -1) = false:=by simpa using h1
  obtain ⟨q,rfl⟩:=Int.eq_ofNat_of_zero_le (show 0 <= c by omega)
  have hq:q < F.vs.length:=by omega
  obtain ⟨g,o,e,hv,hg,hqn,hn⟩:=h.val hq
  have c11:=h.c11
  rw [e] at c11
  have hb:=h.lt
  have e2:costE F.vs (q:Int) = vAt F.vs q:=by unfold costE; rw [if_neg h1]
  rw [e2]
  generalize vAt F.vs q = z at *
  have HB2:Hid (∀ o n,Below w.heap.size w ((w.alloc o).drewN n)):=fun o n=>below_dn (HB.out o) n
  clear h hc h1 hq e e2 HB
  go_enter Tryz.func73,Tryz.ntmps73
  go_upto_region 3 with (fail)
  go_quiet (fail)
  go_wp2
  go_ret
  exact ⟨rfl,HB2.out _ _⟩
theorem allow_calls (k:Int) (row col:Bool) (w:World):Calls Tryz.prog 110 #[I J k,.bool row,.bool col] w fun e w'=>e = .returned (.bool (allowE k row col)) /\ w' = w:=by
 by_cases h:k = 1
 ·subst h
  have h1:((1:Int) == 1) = true:=rfl
  cases row with
  | true=>
    go_enter Tryz.func110,Tryz.ntmps110
    go_wp2
    go_ret
    exact ⟨rfl,rfl⟩
  | false=>
    go_enter Tryz.func110,Tryz.ntmps110
    go_wp2
    go_ret
    exact ⟨rfl,rfl⟩
 ·have h1:(k == 1) = false:=by simpa using h
  by_cases h2:k = 2
  ·subst h2
   have h3:((2:Int) == 2) = true:=rfl
   go_enter Tryz.func110,Tryz.ntmps110
   go_wp2
   go_ret
   exact ⟨rfl,rfl⟩
  ·have h3:(k == 2) = false:=by simpa using h2
   have HE:Hid (allowE k row col = true):=by show allowE k row col = true; unfold allowE; rw [if_neg h,if_neg h2]
   go_enter Tryz.func110,Tryz.ntmps110
   go_wp2
   go_ret
   exact ⟨ret_bool HE.out.symm,rfl⟩
theorem step_calls (k:Int) (w:World):Calls Tryz.prog 50 #[I J k] w fun e w'=>e = .returned (.tuple #[I J (dnE k),I J (ovE k)]) /\ w = w':=by
 by_cases h:k = 1
 ·subst h
  have h1:((1:Int) == 1) = true:=rfl
  go_enter Tryz.func50,Tryz.ntmps50
  go_wp2
  go_ret2
  exact ⟨rfl,rfl⟩
 ·have h1:(k == 1) = false:=by simpa using h
  by_cases h2:k = 2
  ·subst h2
   have h3:((2:Int) == 2) = true:=rfl
   go_enter Tryz.func50,Tryz.ntmps50
   go_wp2
   go_ret2
   exact ⟨rfl,rfl⟩
  ·have h3:(k == 2) = false:=by simpa using h2
   have HE:Hid (dnE k = 0 /\ ovE k = 1):=by show dnE k = 0 /\ ovE k = 1; unfold dnE ovE; rw [if_neg h,if_neg h2,if_neg h,if_neg h2]; exact ⟨rfl,rfl⟩
   go_enter Tryz.func50,Tryz.ntmps50
   go_wp2
   go_ret2
   rw [HE.out.1,HE.out.2]
   exact ⟨rfl,rfl⟩
theorem column_calls (k:Int) (w:World):Calls Tryz.prog 52 #[I J k] w fun e w'=>e = .returned (.int .u8 ((letE k).toNat:Int)) /\ w = w':=by
 by_cases h:k = 1
 ·subst h
  have h1:((1:Int) == 1) = true:=rfl
  go_enter Tryz.func52,Tryz.ntmps52
  go_wp2
  go_ret
  exact ⟨rfl,rfl⟩
 ·have h1:(k == 1) = false:=by simpa using h
  by_cases h2:k = 2
  ·subst h2
   have h3:((2:Int) == 2) = true:=rfl
   go_enter Tryz.func52,Tryz.ntmps52
   go_wp2
   go_ret
   exact ⟨rfl,rfl⟩
  ·have h3:(k == 2) = false:=by simpa using h2
   have HE:Hid (letE k = 73):=by show letE k = 73; unfold letE; rw [if_neg h,if_neg h2]
   go_enter Tryz.func52,Tryz.ntmps52
   go_wp2
   go_ret
   rw [HE.out]
   exact ⟨rfl,rfl⟩
theorem wraps_u16 (n:Int) (h0:0 <= n) (h1:n < 2 ^ 16):IntKind.u16.wrap n = n:=by
 simp [IntKind.wrap,IntKind.bits,IntKind.signed]
 omega
theorem bits16_and (a b:Nat) (ha:a < 65536) (hb:b < 65536):bits .and .u16 (a:Int) (b:Int) = ((a &&& b:Nat):Int):=(bits_nat .u16 16 (by decide) wraps_u16 a b ha hb).1
theorem bits16_or (a b:Nat) (ha:a < 65536) (hb:b < 65536):bits .or .u16 (a:Int) (b:Int) = ((a ||| b:Nat):Int):=(bits_nat .u16 16 (by decide) wraps_u16 a b ha hb).2
theorem pow_small {q:Nat} (h:q <= 10):2 ^ q <= 1024:=Nat.pow_le_pow_right (by decide) h
theorem has_calls (S:Nat) (s:Int) (w:World) (hS:S < 65536) (h0:-1 <= s) (h1:s <= 9):Calls Tryz.prog 45 #[.int .u16 (S:Int),I J s] w fun e w'=>e = .returned (.bool (hasE S s)) /\ w = w':=by
 have HE:Hid ((bits BinOp.and IntKind.u16 ((S:Int) / 2 ^ (s + 1).toNat) 1 == 1) = hasE S s):=by
  show _ = _
  unfold hasE
  generalize (s + 1).toNat = q
  have e:(S:Int) / 2 ^ q = ((S / 2 ^ q:Nat):Int):=by simp
  have e2:=bits16_and (S / 2 ^ q) 1 (Nat.lt_of_le_of_lt (Nat.div_le_self _ _) hS) (by decide)
  rw [e,show (1:Int) = ((1:Nat):Int) from rfl,e2,Nat.and_one_is_mod,Nat.testBit_eq_decide_div_mod_eq]
  by_cases h:S / 2 ^ q % 2 = 1
  ·rw [h]; rfl
  ·rw [decide_eq_false h,beq_eq_false_iff_ne]
   exact fun k=>h (by exact_mod_cast k)
 go_enter Tryz.func45,Tryz.ntmps45
 go_wp2
 go_ret
 exact ⟨ret_bool HE.out,rfl⟩
theorem with_calls (S:Nat) (s:Int) (w:World) (hS:S < 65536) (h0:-1 <= s) (h1:s <= 9):Calls Tryz.prog 80 #[.int .u16 (S:Int),I J s] w fun e w'=>e = .returned (.int .u16 (withE S s:Int)) /\ w = w':=by
 have HE:Hid (bits BinOp.or IntKind.u16 (S:Int) (IntKind.u16.wrap (2 ^ (s + 1).toNat)) = (withE S s:Int)):=by
  show _ = _
  unfold withE bitE
  have hp:=pow_small (q:=(s + 1).toNat) (by omega)
  generalize (s + 1).toNat = q at *
  rw [show ((2:Int) ^ q) = ((2 ^ q:Nat):Int) by simp,wraps_u16 _ (Int.natCast_nonneg _) (by exact_mod_cast (show 2 ^ q < 65536 by omega)),bits16_or _ _ hS (by omega)]
 go_enter Tryz.func80,Tryz.ntmps80
 go_wp2
 go_ret
 exact ⟨by rw [<- HE.out]; rfl,rfl⟩
theorem with_lt {S:Nat} {s:Int} (hS:S < 1024) (h1:s <= 8):withE S s < 1024:=by
 unfold withE bitE
 have:2 ^ (s + 1).toNat < 2 ^ 10:=Nat.pow_lt_pow_right (by decide) (by omega)
 exact Nat.or_lt_two_pow (n:=10) hS this
theorem has_with {S:Nat} {s t:Int} (h0:-1 <= s) (h1:-1 <= t):hasE (withE S s) t = (hasE S t || decide (t = s)):=by
 unfold hasE withE bitE
 rw [Nat.testBit_or,Nat.testBit_two_pow]
 congr 1
 by_cases h:t = s
 ·subst h; simp
 ·rw [decide_eq_false h,decide_eq_false (by omega)]
theorem has_zero (t:Int):hasE 0 t = false:=by unfold hasE; simp
theorem begin_calls {F:Fe} {A:Fx} {b:Nat} (i j:Int) (w:World) (h:FcAt w b F A) :
 Calls Tryz.prog 74 #[.pointer (some ⟨b,0,none⟩),I J i,I J j] w fun e w'=>e = .returned (.bool (allowE F.r.beg (decide (i = 0)) (decide (j = 0)))) /\ w = w':=by
 have c3:=h.c3
 have hb:=h.lt
 clear h
 go_enter Tryz.func74,Tryz.ntmps74
 go_wp2_with fail
 refine (allow_calls F.r.beg (i == 0) (j == 0) w).mono ?_
 rintro e w' ⟨rfl,rfl⟩
 go_wp2
 go_ret
 exact ⟨rfl,rfl⟩
theorem mayEnd_calls {F:Fe} {A:Fx} {b:Nat} (i j:Int) (w:World) (h:FcAt w b F A) :
 Calls Tryz.prog 78 #[.pointer (some ⟨b,0,none⟩),I J i,I J j] w fun e w'=>e = .returned (.bool (endsE F i j)) /\ ∃ n,w' = w.drewN n:=by
 have c4:=h.c4
 have c12:=h.c12
 have c13:=h.c13
 have hb:=h.lt
 have HE:Hid (endsE F i j = allowE F.r.fin (i == (A.x.n:Int)) (j == (A.y.n:Int))):=by
  show _ = _
  unfold endsE
  rw [h.xs.length,h.ys.length]
  rfl
 have hx:=h.xs.short
 have hy:=h.ys.short
 unfold maxLen at hx hy
 clear h
 generalize F.r.fin = fin at *
 go_enter Tryz.func78,Tryz.ntmps78
 go_upto_region 1 with (fail)
 go_quiet ((go_at_call 110; exact Calls.quiet_of_same (allow_calls fin (i == (A.x.n:Int)) (j == (A.y.n:Int)) _)))
 go_wp2
 go_ret
 exact ⟨ret_bool HE.out.symm,_,rfl⟩
theorem inBand_calls {F:Fe} {A:Fx} {b:Nat} (i j:Nat) (w:World) (h:FcAt w b F A) (hi:i <= 1048576) (hj:j <= 1048576) :
 Calls Tryz.prog 42 #[.pointer (some ⟨b,0,none⟩),I J (i:Int),I J (j:Int)] w fun e w'=>e = .returned (.bool (bandE F.r i j)) /\ w = w':=by
 have c7:=h.c7
 have c8:=h.c8
 have c9:=h.c9
 have hb:=h.lt
 have HE:Hid (bandE F.r i j = (!F.r.banded || (decide (F.r.lo <= (j:Int) - (i:Int)) && decide ((j:Int) - (i:Int) <= F.r.hi)))):=rfl
 obtain ⟨R,hR⟩:∃ R,bandE F.r i j = R:=⟨_,rfl⟩
 rw [hR] at HE ⊢
 clear h hR
 generalize F.r.lo = lo at *
 generalize F.r.hi = hi_ at *
 generalize F.r.banded = bd at *
 cases bd with
 | false=>
   go_enter Tryz.func42,Tryz.ntmps42
   go_wp2
   go_ret
   exact ⟨ret_bool HE.out.symm,rfl⟩
 | true=>
   by_cases h1:lo <= (j:Int) - (i:Int)
   ·have k1:decide (lo <= (j:Int) - (i:Int)) = true:=by simpa using h1
    rw [k1] at HE
    go_enter Tryz.func42,Tryz.ntmps42
    go_wp2
    go_ret
    exact ⟨ret_bool HE.out.symm,rfl⟩
   ·have k1:decide (lo <= (j:Int) - (i:Int)) = false:=by simpa using h1
    rw [k1] at HE
    go_enter Tryz.func42,Tryz.ntmps42
    go_wp2
    go_ret
    exact ⟨ret_bool HE.out.symm,rfl⟩
def cellE (F:Fe) (i j:Int):Bool:=decide (0 <= i) && decide (i <= F.xs.length) && decide (0 <= j) && decide (j <= F.ys.length)
theorem isCell_calls {F:Fe} {A:Fx} {b:Nat} (i j:Int) (w:World) (h:FcAt w b F A) :
 Calls Tryz.prog 18 #[.pointer (some ⟨b,0,none⟩),I J i,I J j] w fun e w'=>e = .returned (.bool (cellE F i j)) /\ w = w':=by
 have c12:=h.c12
 have c13:=h.c13
 have hb:=h.lt
 have hx:=h.xs.short
 have hy:=h.ys.short
 unfold maxLen at hx hy
 have HE:Hid (cellE F i j = (decide (0 <= i) && decide (i <= A.x.n) && decide (0 <= j) && decide (j <= A.y.n))):=by
  show _ = _
  unfold cellE
  rw [h.xs.length,h.ys.length]
 obtain ⟨R,hR⟩:∃ R,cellE F i j = R:=⟨_,rfl⟩
 rw [hR] at HE ⊢
 clear h hR
 by_cases h1:0 <= i
 ·have k1:decide (0 <= i) = true:=by simpa using h1
  by_cases h2:i <= A.x.n
  ·have k2:decide (i <= (A.x.n:Int)) = true:=by simpa using h2
   by_cases h3:0 <= j
   ·have k3:decide (0 <= j) = true:=by simpa using h3
    rw [k1,k2,k3] at HE
    go_enter Tryz.func18,Tryz.ntmps18
    go_wp2
    go_ret
    exact ⟨ret_bool HE.out.symm,rfl⟩
   ·have k3:decide (0 <= j) = false:=by simpa using h3
    rw [k1,k2,k3] at HE
    go_enter Tryz.func18,Tryz.ntmps18
    go_wp2
    go_ret
    exact ⟨ret_bool HE.out.symm,rfl⟩
  ·have k2:decide (i <= (A.x.n:Int)) = false:=by simpa using h2
   rw [k1,k2] at HE
   go_enter Tryz.func18,Tryz.ntmps18
   go_wp2
   go_ret
   exact ⟨ret_bool HE.out.symm,rfl⟩
 ·have k1:decide (0 <= i) = false:=by simpa using h1
  rw [k1] at HE
  go_enter Tryz.func18,Tryz.ntmps18
  go_wp2
  go_ret
  exact ⟨ret_bool HE.out.symm,rfl⟩
theorem front_calls {F:Fe} {A:Fx} {b:Nat} (j:Int) (w:World) (h:FcAt w b F A) (hF:FeR F) :
 Calls Tryz.prog 76 #[.pointer (some ⟨b,0,none⟩),I J j] w fun e w'=>e = .returned (I J (if j = 0 then 0 else wrap64 (- vAt F.vs F.r.front))) /\ ∃ n,w' = w.drewN n:=by
 by_cases h1:j = 0
 ·subst h1
  have k:((0:Int) == 0) = true:=rfl
  go_enter Tryz.func76,Tryz.ntmps76
  go_wp2
  go_ret
  exact ⟨rfl,0,rfl⟩
 ·have k:(j == 0) = false:=by simpa using h1
  rw [if_neg h1]
  obtain ⟨f0,f1⟩:=hF.front
  obtain ⟨q,hq⟩:=Int.eq_ofNat_of_zero_le f0
  have c5:=h.c5
  rw [hq] at c5 f1
  have hql:q < F.vs.length:=by omega
  obtain ⟨g,o,e,hv,hg,hqn,hn⟩:=h.val hql
  have hbd:=hF.vals _ (List.mem_of_getElem? (vAt_get hql))
  unfold maxV at hbd
  have c11:=h.c11
  rw [e] at c11
  have hb:=h.lt
  rw [hq]
  generalize vAt F.vs (q:Int) = z at *
  rw [wrap_id (n:=-z) (by omega) (by omega)]
  clear h hF h1 f0 f1 e hq
  go_enter Tryz.func76,Tryz.ntmps76
  go_upto_region 3 with (fail)
  go_quiet (fail)
  go_wp2
  go_ret
  exact ⟨rfl,_,rfl⟩
theorem back_calls {F:Fe} {A:Fx} {b:Nat} (j:Int) (w:World) (h:FcAt w b F A) (hF:FeR F) :
 Calls Tryz.prog 79 #[.pointer (some ⟨b,0,none⟩),I J j] w fun e w'=>e = .returned (I J (backE F j)) /\ ∃ n,w' = w.drewN n:=by
 have hy:=h.ys.short
 unfold maxLen at hy
 have c13:=h.c13
 have hb:=h.lt
 have HE:Hid (backE F j = if j = (A.y.n:Int) then 0 else vAt F.vs F.r.back):=by
  show _ = _
  unfold backE
  rw [h.ys.length]
 by_cases h1:j = (A.y.n:Int)
 ·subst h1
  have k:((A.y.n:Int) == (A.y.n:Int)) = true:=by simp
  rw [if_pos rfl] at HE
  clear h hF
  go_enter Tryz.func79,Tryz.ntmps79
  go_wp2
  go_ret
  rw [HE.out]
  exact ⟨rfl,0,rfl⟩
 ·have k:(j == (A.y.n:Int)) = false:=by simpa using h1
  rw [if_neg h1] at HE
  obtain ⟨f0,f1⟩:=hF.back
  obtain ⟨q,hq⟩:=Int.eq_ofNat_of_zero_le f0
  have c6:=h.c6
  rw [hq] at c6 f1 HE
  have hql:q < F.vs.length:=by omega
  obtain ⟨g,o,e,hv,hg,hqn,hn⟩:=h.val hql
  have c11:=h.c11
  rw [e] at c11
  generalize vAt F.vs (q:Int) = z at *
  clear h hF h1 f0 f1 e hq
  go_enter Tryz.func79,Tryz.ntmps79
  go_upto_region 3 with (fail)
  go_quiet (fail)
  go_wp2
  go_ret
  rw [HE.out]
  exact ⟨rfl,_,rfl⟩
/-- Where a letter over a letter lies. -/
theorem FcAt.sub {w:World} {b:Nat} {F:Fe} {A:Fx} (h:FcAt w b F A) (hF:FeR F) {i j:Nat} (hi:i < F.xs.length) (hj:j < F.ys.length) :
 ∃ (gx ox gy oy gs os gv ov:Nat) (xv yv:Int) (ix px:Nat),A.x.a = some ⟨gx,ox,none⟩ /\ A.y.a = some ⟨gy,oy,none⟩ /\ A.s.a = some ⟨gs,os,none⟩ /\ A.v.a = some ⟨gv,ov,none⟩ /\
   w.cell? ⟨gx,ox + i,none⟩ = some (I J xv) /\ w.cell? ⟨gy,oy + j,none⟩ = some (I J yv) /\ (0 <= F.r.letters * xv /\ F.r.letters * xv <= 400) /\ (0 <= yv /\ yv < 20) /\ F.r.letters * xv + yv = (ix:Int) /\ ix < A.s.n /\
   w.cell? ⟨gs,os + ix,none⟩ = some (I J (px:Int)) /\ px < A.v.n /\ w.cell? ⟨gv,ov + px,none⟩ = some (I J (subE F ((i:Int) + 1) ((j:Int) + 1))):=by
 have hl2:=hF.lo
 have hl20:=hF.hi
 obtain ⟨gx,ox,ex,hcx⟩:=h.xs.isI i _ (vAt_get hi)
 obtain ⟨gy,oy,ey,hcy⟩:=h.ys.isI j _ (vAt_get hj)
 have hx:=hF.xs _ (List.mem_of_getElem? (vAt_get hi))
 have hy:=hF.ys _ (List.mem_of_getElem? (vAt_get hj))
 have hsub:subE F ((i:Int) + 1) ((j:Int) + 1) = vAt F.vs (vAt F.r.subst (F.r.letters * vAt F.xs i + vAt F.ys j)):=by
  unfold subE
  rw [show ((i:Int) + 1 - 1) = i by omega,show ((j:Int) + 1 - 1) = j by omega]
 rw [hsub]
 generalize vAt F.xs (i:Int) = xv at *
 generalize vAt F.ys (j:Int) = yv at *
 have h1:0 <= F.r.letters * xv:=Int.mul_nonneg (by omega) hx.1
 have h2:F.r.letters * xv <= F.r.letters * (F.r.letters - 1):=Int.mul_le_mul_of_nonneg_left (by omega) (by omega)
 have h3:F.r.letters * (F.r.letters - 1) = F.r.letters * F.r.letters - F.r.letters:=by rw [Int.mul_sub]; omega
 have h4:F.r.letters * F.r.letters <= 20 * 20:=Int.mul_le_mul hl20 hl20 (by omega) (by omega)
 have hcount:=hF.count
 obtain ⟨ix,hix⟩:=Int.eq_ofNat_of_zero_le (show 0 <= F.r.letters * xv + yv by omega)
 have hlt:ix < F.r.subst.length:=by omega
 obtain ⟨gs,os,es,hcs⟩:=h.subst.isI ix _ (vAt_get hlt)
 have hp:=hF.places _ (List.mem_of_getElem? (vAt_get hlt))
 rw [hix]
 obtain ⟨px,hpx⟩:=Int.eq_ofNat_of_zero_le hp.1
 rw [hpx] at hcs hp ⊢
 obtain ⟨gv,ov,ev,hcv⟩:=h.vals.isI px _ (vAt_get (show px < F.vs.length by omega))
 exact ⟨gx,ox,gy,oy,gs,os,gv,ov,xv,yv,ix,px,ex,ey,es,ev,hcx,hcy,by omega,by omega,hix,by rw [<- h.subst.length]; exact hlt,hcs,by rw [<- h.vals.length]; omega,hcv⟩
theorem subst_calls {F:Fe} {A:Fx} {b:Nat} (i j:Nat) (w:World) (h:FcAt w b F A) (hF:FeR F) (hi:i < F.xs.length) (hj:j < F.ys.length) :
 Calls Tryz.prog 113 #[.pointer (some ⟨b,0,none⟩),I J ((i:Int) + 1),I J ((j:Int) + 1)] w fun e w'=>e = .returned (I J (subE F ((i:Int) + 1) ((j:Int) + 1))) /\ ∃ n,w' = w.drewN n:=by
 obtain ⟨gx,ox,gy,oy,gs,os,gv,ov,xv,yv,ix,px,ex,ey,es,ev,hcx,hcy,⟨l1,l2⟩,⟨y1,y2⟩,hix,hixn,hcs,hpx,hcv⟩:=h.sub hF hi hj
 have c0:=h.c0
 have c2:=h.c2
 have c11:=h.c11
 have c12:=h.c12
 have c13:=h.c13
 rw [es] at c2
 rw [ev] at c11
 rw [ex] at c12
 rw [ey] at c13
 have hb:=h.lt
 have hin:i < A.x.n:=by rw [<- h.xs.length]; exact hi
 have hjn:j < A.y.n:=by rw [<- h.ys.length]; exact hj
 have s1:=h.xs.short
 have s2:=h.ys.short
 have s3:=h.subst.short
 have s4:=h.vals.short
 unfold maxLen at s1 s2 s3 s4
 generalize subE F ((i:Int) + 1) ((j:Int) + 1) = z at *
 generalize F.r.letters = L at *
 have e1:(i:Int) + 1 - 1 = (i:Int):=by omega
 have e2:(j:Int) + 1 - 1 = (j:Int):=by omega
 clear h hF ex ey es ev hi hj
 go_enter Tryz.func113,Tryz.ntmps113
 go_upto_region 1 with (fail)
 go_quiet (fail)
 go_wp2
 go_ret
 exact ⟨rfl,_,rfl⟩
end Go.Proofs.YtbbbnopganhebabGreat
