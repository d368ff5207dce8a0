/-
  Expressions, items and the parser in memory; a world that is as it was but for one block. The cursor: here, sees, next; the parser's wrong, tooMany, sign. The parser's wrong, tooMany, sign.
-/
import Derived.WalkKit
import Derived.Test.YtlaodgdlkkmmeaaGreatG02
import Derived.Test.YtlaodgdlkkmmeaaGreatG03
namespace Go.Proofs.YtlaodgdlkkmmeaaGreat
open Go.RowKit Go.Deep
open Go.Value renaming int->I,slice->Γ
open Go.IntKind renaming i64->J
open Go.Obj renaming cells->Δ
/-- As it was, but for one block. -/
structure Kp (b:Nat) (w w':World):Prop where
 os:w'.os = w.os
 tape:w'.tape = w.tape
 output:w'.output = w.output
 size:w.heap.size <= w'.heap.size
 block:∀ g,g < w.heap.size -> g ≠ b -> w'.heap[g]? = w.heap[g]?
theorem Kp.refl (b:Nat) (w:World):Kp b w w:=⟨rfl,rfl,rfl,Nat.le_refl _,fun _ _ _=>rfl⟩
theorem Kp.trans {b:Nat} {w w1 w2:World} (h:Kp b w w1) (k:Kp b w1 w2):Kp b w w2:=
 ⟨k.os.trans h.os,k.tape.trans h.tape,k.output.trans h.output,Nat.le_trans h.size k.size,fun g hg hb=>(k.block g (Nat.lt_of_lt_of_le hg h.size) hb).trans (h.block g hg hb)⟩
theorem Kp.of_below {b:Nat} {w w':World} (h:Below w.heap.size w w'):Kp b w w':=⟨h.os,h.tape,h.output,h.size,fun g hg _=>h.block g hg⟩
theorem Kp.then_below {b:Nat} {w w1 w2:World} (h:Kp b w w1) (k:Below w1.heap.size w1 w2):Kp b w w2:=h.trans (Kp.of_below k)
theorem Kp.below {b B:Nat} {w w':World} (h:Kp b w w') (hB:B <= b) (hs:B <= w.heap.size):Below B w w':=⟨h.os,h.tape,h.output,h.size,fun g hg=>h.block g (by omega) (by omega)⟩
theorem Kp.setCell {b:Nat} {w w1:World} (h:Kp b w w1) (i:Nat) (u:Value):Kp b w (w1.setCell ⟨b,i,none⟩ u):=
 h.trans ⟨rfl,rfl,rfl,by simp [World.setCell],fun g _ hb=>Below.heap_setCell w1 _ u g hb⟩
theorem Kp.setNew {b g:Nat} {w w1:World} (h:Kp b w w1) (hg:w.heap.size <= g) (i:Nat) (u:Value):Kp b w (w1.setCell ⟨g,i,none⟩ u):=
 ⟨h.os,h.tape,h.output,by simpa [World.setCell] using h.size,fun k hk hb=>by rw [Below.heap_setCell w1 _ u k (by show k ≠ g; omega)]; exact h.block k hk hb⟩
theorem Kp.alloc {b:Nat} {w w1:World} (h:Kp b w w1) (o:Obj):Kp b w (w1.alloc o):=h.then_below ((Below.refl _ _).alloc (Nat.le_refl _) o)
theorem Kp.drew {b:Nat} {w w1:World} (h:Kp b w w1):Kp b w w1.drew:=h.then_below (Below.refl _ _).drew
theorem Kp.cell {b:Nat} {w w':World} (h:Kp b w w') {p:Addr} {u:Value} (hp:p.block ≠ b) (hc:w.cell? p = some u):w'.cell? p = some u:=by
 rw [World.cell?_of_block (w:=w) (h.block p.block (World.block_lt_of_cell? w _ hc) hp)]; exact hc
theorem Kp.grown {b:Nat} {w w1 w2:World} {row:Option Nat} (h:Kp b w w1) (hg:w1.grownBy w2 row) (hr:∀ k,row = some k -> w.heap.size <= k):Kp b w w2:=by
 have h1:Below w.heap.size w1 w2:=Below.grown (Below.refl _ _) hg h.size hr
 exact ⟨h1.os.trans h.os,h1.tape.trans h.tape,h1.output.trans h.output,Nat.le_trans h.size h1.size,fun g hk hb=>(h1.block g hk).trans (h.block g hk hb)⟩
def InR (z:Int):Prop:=-9223372036854775808 <= z /\ z <= 9223372036854775807
structure HdOk (h:Hd):Prop where
 kind:InR h.kind
 num:InR h.num
 text:h.text.length <= maxLen
 pl:InR h.pl
def exV (h:Hd) (ka:Option Addr) (kn kc:Nat):Value:=.agg #[I J h.kind,I J h.num,.string (bs h.text),Γ ka kn kc,I J h.pl]
def exCells (h:Hd) (ka:Option Addr) (kn kc:Nat):List Value:=[I J h.kind,I J h.num,.string (bs h.text),Γ ka kn kc,I J h.pl]
def CellsAt (w:World) (g off:Nat) (l:List Value):Prop:=∀ i u,l[i]? = some u -> w.cell? ⟨g,off + i,none⟩ = some u
theorem CellsAt.of_heap {w:World} {g off:Nat} {l:List Value} {w':World} (h:CellsAt w g off l) (hb:w'.heap[g]? = w.heap[g]?):CellsAt w' g off l:=fun i u hi=>by
 rw [World.cell?_of_block (w:=w) (a:=⟨g,off + i,none⟩) hb]; exact h i u hi
/-- A list of expressions in memory; 'o': in blocks that hold expressions alone and may be written. -/
def FoAt (o:Bool) (S:Nat -> Prop) (w:World):Fo -> Option Addr -> Nat -> Prop
 | .nil,_,n=>n = 0
 | .node _ _ h k r,ao,n=>∃ g off ka kn kc m,n = m + 1 /\ ao = some ⟨g,off,none⟩ /\ S g /\ (o = true -> off % 5 = 0 /\ ∃ cs,w.heap[g]? = some (Δ cs 102 (0,0))) /\ HdOk h /\ kn <= maxLen /\
  CellsAt w g off (exCells h ka kn kc) /\ FoAt o S w k ka kn /\ FoAt o S w r (some ⟨g,off + 5,none⟩) m
theorem foAt_len {o:Bool} {S:Nat -> Prop} {w:World}:∀ {F:Fo} {ao:Option Addr} {n:Nat},FoAt o S w F ao n -> n = lenF F
 | .nil,_,_,h=>h
 | .node _ _ _ _ r,_,_,h=>by
   obtain ⟨g,off,ka,kn,kc,m,hn,_,_,_,_,_,_,_,hr⟩:=h
   rw [hn,foAt_len hr]; rfl
theorem foAt_keep {o:Bool} {S:Nat -> Prop} {w w':World} (hk:∀ g,g < w.heap.size -> S g -> w'.heap[g]? = w.heap[g]?):∀ {F:Fo} {ao:Option Addr} {n:Nat},FoAt o S w F ao n -> FoAt o S w' F ao n
 | .nil,_,_,h=>h
 | .node _ _ h k r,ao,n,hh=>by
   obtain ⟨g,off,ka,kn,kc,m,hn,ha,hB,ho,hok,hkn,hc,hk1,hr⟩:=hh
   have hlt:g < w.heap.size:=World.block_lt_of_cell? w _ (hc 0 _ rfl)
   have he:=hk g hlt hB
   exact ⟨g,off,ka,kn,kc,m,hn,ha,hB,fun e=>⟨(ho e).1,by rw [he]; exact (ho e).2⟩,hok,hkn,hc.of_heap he,foAt_keep hk hk1,foAt_keep hk hr⟩
theorem FoAt.kp {o:Bool} {b:Nat} {S:Nat -> Prop} {w w':World} {F:Fo} {ao:Option Addr} {n:Nat} (h:FoAt o S w F ao n) (hk:Kp b w w') (hB:¬ S b):FoAt o S w' F ao n:=
 foAt_keep (fun g hg hb=>hk.block g hg (fun e=>hB (e ▸ hb))) h
theorem FoAt.below {o:Bool} {S:Nat -> Prop} {w w':World} {F:Fo} {ao:Option Addr} {n:Nat} (h:FoAt o S w F ao n) (hk:Below w.heap.size w w'):FoAt o S w' F ao n:=
 foAt_keep (fun g hg _=>hk.block g hg) h
theorem FoAt.base {o:Bool} {S S':Nat -> Prop} {w:World} (hB:∀ g,g < w.heap.size -> S g -> S' g):∀ {F:Fo} {ao:Option Addr} {n:Nat},FoAt o S w F ao n -> FoAt o S' w F ao n
 | .nil,_,_,h=>h
 | .node _ _ h k r,ao,n,hh=>by
   obtain ⟨g,off,ka,kn,kc,m,hn,ha,hg,ho,hok,hkn,hc,hk1,hr⟩:=hh
   exact ⟨g,off,ka,kn,kc,m,hn,ha,hB g (World.block_lt_of_cell? w _ (hc 0 _ rfl)) hg,ho,hok,hkn,hc,FoAt.base hB hk1,FoAt.base hB hr⟩
theorem FoAt.loose {S:Nat -> Prop} {w:World}:∀ {F:Fo} {ao:Option Addr} {n:Nat},FoAt true S w F ao n -> FoAt false S w F ao n
 | .nil,_,_,h=>h
 | .node _ _ h k r,ao,n,hh=>by
   obtain ⟨g,off,ka,kn,kc,m,hn,ha,hg,ho,hok,hkn,hc,hk1,hr⟩:=hh
   exact ⟨g,off,ka,kn,kc,m,hn,ha,hg,(fun e=>by cases e),hok,hkn,hc,FoAt.loose hk1,FoAt.loose hr⟩
/-- An expression as a value, its Kids in memory. -/
structure ExAt (o:Bool) (S:Nat -> Prop) (w:World) (e:Ex) (ka:Option Addr) (kn:Nat):Prop where
 hd:HdOk e.1
 few:kn <= maxLen
 kids:FoAt o S w e.2 ka kn
theorem ExAt.kp {o:Bool} {b:Nat} {S:Nat -> Prop} {w w':World} {e:Ex} {ka:Option Addr} {kn:Nat} (h:ExAt o S w e ka kn) (hk:Kp b w w') (hB:¬ S b):ExAt o S w' e ka kn:=⟨h.hd,h.few,h.kids.kp hk hB⟩
theorem ExAt.below {o:Bool} {S:Nat -> Prop} {w w':World} {e:Ex} {ka:Option Addr} {kn:Nat} (h:ExAt o S w e ka kn) (hk:Below w.heap.size w w'):ExAt o S w' e ka kn:=⟨h.hd,h.few,h.kids.below hk⟩
theorem ExAt.base {o:Bool} {S S':Nat -> Prop} {w:World} {e:Ex} {ka:Option Addr} {kn:Nat} (h:ExAt o S w e ka kn) (hB:∀ g,g < w.heap.size -> S g -> S' g):ExAt o S' w e ka kn:=⟨h.hd,h.few,h.kids.base hB⟩
theorem ExAt.keep {o:Bool} {S:Nat -> Prop} {w w':World} {e:Ex} {ka:Option Addr} {kn:Nat} (h:ExAt o S w e ka kn) (hk:∀ g,g < w.heap.size -> S g -> w'.heap[g]? = w.heap[g]?):ExAt o S w' e ka kn:=⟨h.hd,h.few,foAt_keep hk h.kids⟩
/-- A row of expressions with their slices. -/
abbrev Xs:=Ex × Option Addr × Nat × Nat
def xsCells (x:Xs):List Value:=exCells x.1.1 x.2.1 x.2.2.1 x.2.2.2
theorem xs_len (x:Xs):(xsCells x).length = 5:=rfl
theorem xs_one (x:Xs):∀ u ∈ xsCells x,u.oneCell' = true:=by
 intro u hu
 simp [xsCells,exCells] at hu
 rcases hu with rfl | rfl | rfl | rfl | rfl <;> rfl
def xRow (l:List Xs):List Value:=l.flatMap xsCells
theorem xRow_length (l:List Xs):(xRow l).length = l.length * 5:=by
 induction l with
 | nil=>rfl
 | cons q r ih=>simp only [xRow,List.flatMap_cons,List.length_append,List.length_cons] at ih ⊢; rw [ih,xs_len]; omega
theorem xRow_snoc (l:List Xs) (q:Xs):xRow (l ++ [q]) = xRow l ++ xsCells q:=by simp [xRow]
/-- A list laid in one block. -/
theorem foAt_row {o:Bool} {S:Nat -> Prop} {g:Nat} {w:World} (hB:S g) {cs:Array Value} (hg:w.heap[g]? = some (Δ cs 102 (0,0))):∀ (l:List Xs) (off:Nat),(o = true -> off % 5 = 0) -> (∀ i u,(xRow l)[i]? = some u -> cs[off + i]? = some u) ->
 (∀ x ∈ l,ExAt o S w x.1 x.2.1 x.2.2.1) -> FoAt o S w (ofL (l.map (·.1))) (some ⟨g,off,none⟩) l.length
 | [],off,_,_,_=>rfl
 | x :: r,off,h5,hc,hx=>by
   have hx0:=hx x (by simp)
   refine ⟨g,off,x.2.1,x.2.2.1,x.2.2.2,r.length,rfl,rfl,hB,fun e=>⟨h5 e,cs,hg⟩,hx0.hd,hx0.few,fun i u hi=>?_,hx0.kids,?_⟩
   ·rw [cell_of_row w g (off + i) cs 102 (0,0) hg]
    have hi':(xsCells x)[i]? = some u:=hi
    exact hc i u (by rw [xRow,List.flatMap_cons,List.getElem?_append_left (List.getElem?_eq_some_iff.1 hi').1]; exact hi')
   ·refine foAt_row hB hg r (off + 5) (fun e=>by have:=h5 e; omega) (fun i u hi=>?_) fun y hy=>hx y (by simp [hy])
    have:=hc (5 + i) u (by rw [xRow,List.flatMap_cons,List.getElem?_append_right (by rw [xs_len]; omega),xs_len,Nat.add_sub_cancel_left]; exact hi)
    rw [show off + 5 + i = off + (5 + i) by omega]; exact this
/-- An owned row of expressions as a list. -/
theorem foAt_owned {o:Bool} {S:Nat -> Prop} {B:Nat} {w:World} {ao:Option Addr} {n cap:Nat} {l:List Xs} (hS:∀ g,some g = (Value.slice ao n cap).ownBlock -> B <= g -> S g) (h:w.ownsRow B 102 5 (Γ ao n cap) n (xRow l)) (hx:∀ x ∈ l,ExAt o S w x.1 x.2.1 x.2.2.1):FoAt o S w (ofL (l.map (·.1))) ao n /\ n = l.length:=by
 have hl:n = l.length:=by have:=h.1; rw [xRow_length] at this; omega
 refine ⟨?_,hl⟩
 rcases h.2 with ⟨hv,h0⟩ | ⟨g,cap',cur,hv,hb,hg,h1,h2,h3,h4⟩
 ·subst h0
  have:l = []:=List.eq_nil_of_length_eq_zero hl.symm
  subst this; rfl
 ·cases hv
  rw [hl]
  refine foAt_row (hS g rfl hb) hg l 0 (fun _=>rfl) (fun i u hi=>?_) hx
  rw [<- h4] at hi
  have h5:i < (cur.toList.take (n * 5)).length:=(List.getElem?_eq_some_iff.1 hi).1
  have h6:i < n * 5:=by simp at h5; omega
  rw [List.getElem?_take_of_lt h6] at hi
  simpa using hi
/-- The parser's block: its tokens, where it stands, its fault. -/
structure PAt (b:Nat) (ta:Option Addr) (tn tc:Nat) (T l:List Tk) (f:Int × Int) (w:World):Prop where
 block:∃ k,T.drop k = l /\ k < T.length /\ w.heap[b]? = some (Δ #[Γ ta tn tc,I J (k:Int),I J f.1,I J f.2] 88 (0,0))
 toks:TksAt w ta tn T
 low:∀ x,ta = some x -> x.block < b
 last:∃ T' e,T = T' ++ [e] /\ e.kind = 1
 few:T.length <= 4001
theorem TksAt.keep {w w':World} {ao:Option Addr} {len:Nat} {l:List Tk} (h:TksAt w ao len l) (hk:∀ x,ao = some x -> w'.heap[x.block]? = w.heap[x.block]?):TksAt w' ao len l:=by
 refine ⟨h.length,h.short,h.fits,fun h0=>?_⟩
 obtain ⟨g,off,e,hc⟩:=h.cells h0
 have hh:w'.heap[g]? = w.heap[g]?:=hk _ e
 refine ⟨g,off,e,fun i q hi=>?_⟩
 obtain ⟨h1,h2,h3,h4⟩:=hc i q hi
 exact ⟨by rw [World.cell?_of_block (w:=w) (a:=⟨g,_,none⟩) hh]; exact h1,by rw [World.cell?_of_block (w:=w) (a:=⟨g,_,none⟩) hh]; exact h2,by rw [World.cell?_of_block (w:=w) (a:=⟨g,_,none⟩) hh]; exact h3,by rw [World.cell?_of_block (w:=w) (a:=⟨g,_,none⟩) hh]; exact h4⟩
theorem TksAt.kp {b:Nat} {w w':World} {ao:Option Addr} {len:Nat} {l:List Tk} (h:TksAt w ao len l) (hlow:∀ x,ao = some x -> x.block < b) (hb:Kp b w w'):TksAt w' ao len l:=by
 refine ⟨h.length,h.short,h.fits,fun h0=>?_⟩
 obtain ⟨g,off,e,hc⟩:=h.cells h0
 have hne:g ≠ b:=by have:g < b:=hlow _ e; omega
 refine ⟨g,off,e,fun i q hi=>?_⟩
 obtain ⟨h1,h2,h3,h4⟩:=hc i q hi
 exact ⟨hb.cell hne h1,hb.cell hne h2,hb.cell hne h3,hb.cell hne h4⟩
section
variable {b:Nat} {ta:Option Addr} {tn tc:Nat} {T l:List Tk} {f:Int × Int} {w w':World}
theorem PAt.lt (h:PAt b ta tn tc T l f w):b < w.heap.size:=by
 obtain ⟨k,_,_,hb⟩:=h.block
 exact lt_block hb
theorem PAt.below (h:PAt b ta tn tc T l f w) (hb:Below w.heap.size w w'):PAt b ta tn tc T l f w':=by
 obtain ⟨k,h1,h2,h3⟩:=h.block
 exact ⟨⟨k,h1,h2,by rw [hb.block b h.lt]; exact h3⟩,h.toks.below hb,h.low,h.last,h.few⟩
theorem PAt.kp (h:PAt b ta tn tc T l f w) (hk:Kp b w w') {l':List Tk} {f':Int × Int} {k:Nat} (h1:T.drop k = l') (h2:k < T.length) (h3:w'.heap[b]? = some (Δ #[Γ ta tn tc,I J (k:Int),I J f'.1,I J f'.2] 88 (0,0))):PAt b ta tn tc T l' f' w':=
 ⟨⟨k,h1,h2,h3⟩,h.toks.kp h.low hk,h.low,h.last,h.few⟩
theorem PAt.here1 (h:PAt b ta tn tc T l f w):∃ t r,l = t :: r:=by
 obtain ⟨k,h1,h2,_⟩:=h.block
 cases l with
 | nil=>have:=congrArg List.length h1; simp at this; omega
 | cons t r=>exact ⟨t,r,rfl⟩
/-- Behind a token that is not the end there is another. -/
theorem PAt.more {t:Tk} {r:List Tk} (h:PAt b ta tn tc T (t :: r) f w) (ht:t.kind ≠ 1) {k:Nat} (hk:T.drop k = t :: r):T.drop (k + 1) = r /\ k + 1 < T.length:=by
 have h1:T.drop (k + 1) = r:=by rw [<- List.drop_drop,hk]; rfl
 refine ⟨h1,?_⟩
 obtain ⟨T',e,hT,he⟩:=h.last
 have hlen:=congrArg List.length hk
 simp at hlen
 cases r with
 | nil=>
   exfalso
   simp at hlen
   have hT2:=congrArg List.length hT
   simp at hT2
   rw [hT,show k = T'.length by omega,List.drop_left] at hk
   have:e = t:=by simpa using hk
   rw [this] at he; exact ht he
 | cons q s=>simp at hlen; omega
theorem PAt.len (h:PAt b ta tn tc T l f w):l.length <= 4001:=by
 obtain ⟨k,h1,h2,_⟩:=h.block
 have:=congrArg List.length h1
 simp at this
 have:=h.few
 omega
end
open Go.Value renaming int->I,pointer->Φ,string->Ψ
open Go.Ending renaming returned->Ω
set_option maxHeartbeats 1000000
theorem PAt.cells {b:Nat} {ta:Option Addr} {tn tc:Nat} {T:List Tk} {f:Int × Int} {w:World} {t:Tk} {r:List Tk} (h:PAt b ta tn tc T (t :: r) f w) :
 ∃ k tb to,T.drop k = t :: r /\ k < tn /\ tn <= 4001 /\ k < T.length /\ ta = some ⟨tb,to,none⟩ /\ tb < b /\ w.heap[b]? = some (Δ #[.slice ta tn tc,I J (k:Int),I J f.1,I J f.2] 88 (0,0)) /\
   w.cell? ⟨tb,to + k * 4,none⟩ = some (I J t.kind) /\ w.cell? ⟨tb,to + k * 4 + 1,none⟩ = some (I J t.num) /\ w.cell? ⟨tb,to + k * 4 + 2,none⟩ = some (Ψ (bs t.text)) /\ w.cell? ⟨tb,to + k * 4 + 3,none⟩ = some (I J (t.pl:Int)):=by
 obtain ⟨k,h1,h2,h3⟩:=h.block
 have hl:=h.toks.length
 obtain ⟨tb,to,rfl,hc⟩:=h.toks.cells (by omega)
 have hk:T[k]? = some t:=by
  have:=congrArg (·[0]?) h1
  simpa using this
 obtain ⟨c1,c2,c3,c4⟩:=hc k t hk
 have hf:=h.few
 exact ⟨k,tb,to,h1,by omega,by omega,h2,rfl,h.low _ rfl,h3,c1,c2,c3,c4⟩
theorem blk {w:World} {g i:Nat} {cs:Array Value} {ty:TypeId} {u:Value} (h:w.heap[g]? = some (Δ cs ty (0,0))) (hi:cs[i]? = some u):w.cell? ⟨g,i,none⟩ = some u:=by
 rw [cell_of_row w g i _ _ _ h]; exact hi
theorem blkf {w:World} {g:Nat} (i:Nat) {cs:Array Value} {ty:TypeId} (h:w.heap[g]? = some (Δ cs ty (0,0))):w.frozen? ⟨g,i,none⟩ = false:=frozen_of_row w g i _ _ h
theorem here_calls {b:Nat} {ta:Option Addr} {tn tc:Nat} {T:List Tk} {f:Int × Int} (w:World) {t:Tk} {r:List Tk} (h:PAt b ta tn tc T (t :: r) f w) :
 Calls Tryz.prog 74 #[Φ (some ⟨b,0,none⟩)] w fun e w'=>e = Ω (tkAgg t) /\ Below w.heap.size w w':=by
 have hres:Tryz.f74.results = #[.cell 2 124]:=by kernel_rfl
 obtain ⟨k,tb,to,_,hkn,hn,_,rfl,hlow,hb,c1,c2,c3,c4⟩:=h.cells
 have hlt:=h.lt
 have HK:Hid (Below w.heap.size w (w.alloc (Δ #[I J 0,I J 0,Ψ ⟨#[]⟩,I J 0] 124))):=(Below.refl _ _).alloc (Nat.le_refl _) _
 have ho:=heap_alloc_new w (Δ #[I J 0,I J 0,Ψ ⟨#[]⟩,I J 0] 124)
 have b0:=blk (i:=0) hb rfl
 have b1:=blk (i:=1) hb rfl
 rw [<- HK.out.cell (p:=⟨b,0,none⟩) hlt] at b0
 rw [<- HK.out.cell (p:=⟨b,1,none⟩) hlt] at b1
 rw [<- HK.out.cell (World.block_lt_of_cell? w _ c1)] at c1
 rw [<- HK.out.cell (World.block_lt_of_cell? w _ c2)] at c2
 rw [<- HK.out.cell (World.block_lt_of_cell? w _ c3)] at c3
 rw [<- HK.out.cell (World.block_lt_of_cell? w _ c4)] at c4
 unfold tkAgg
 generalize t.kind = x1 at *
 generalize t.num = x2 at *
 generalize bs t.text = x3 at *
 generalize t.pl = x4 at *
 clear h hb
 go_enter Tryz.func74,Tryz.ntmps74
 go_wp2_with fail
 generalize w.alloc (Δ #[I J 0,I J 0,Ψ ⟨#[]⟩,I J 0] 124) = w1 at *
 have f0:=blkf 0 ho
 have f1:=blkf 1 ho
 have f2:=blkf 2 ho
 have f3:=blkf 3 ho
 have d0:=blk (i:=0) ho rfl
 have d1:=blk (i:=1) ho rfl
 have d2:=blk (i:=2) ho rfl
 have d3:=blk (i:=3) ho rfl
 have hne:¬ b = w.heap.size:=by omega
 clear ho
 go_region
 go_wp2
 refine bodyPost_ret (v:=.agg #[I J x1,I J x2,Ψ x3,I J (x4:Int)]) ?_ rfl ⟨rfl,?_⟩
 ·simp only [results,hres]
  go_simp
 ·exact ((((HK.out.drew).setCell (p:=⟨w.heap.size,0,none⟩) (Nat.le_refl _) _).setCell (p:=⟨w.heap.size,1,none⟩) (Nat.le_refl _) _).setCell (p:=⟨w.heap.size,2,none⟩) (Nat.le_refl _) _).setCell (p:=⟨w.heap.size,3,none⟩) (Nat.le_refl _) _
theorem isT_eq (k:Int) (s:ByteArray) (t:Tk):isT k s.data.toList t = ((t.kind == k) && ((bs t.text).toList == s.toList)):=by
 unfold isT
 rw [bs_toList,ByteArray.toList_eq,Bool.eq_iff_iff]
 simp
theorem below_box' {w w1:World} {o:Obj} (hb:Below (w.alloc o).heap.size (w.alloc o) w1):Below w.heap.size w w1:=
 ((Below.refl _ _).alloc (Nat.le_refl _) o).trans (hb.mono (by simp))
theorem heap_other {W:World} {b g i:Nat} {u:Value} {x:Option Obj} (h:W.heap[b]? = x) (hne:b ≠ g):(W.setCell ⟨g,i,none⟩ u).heap[b]? = x:=by
 rw [Below.heap_setCell W _ u b hne]; exact h
theorem heap_put {W:World} {b i:Nat} {cs cs':Array Value} {ty:TypeId} {u:Value} (h:W.heap[b]? = some (Δ cs ty (0,0))) (hc:cs.setIfInBounds i u = cs'):(W.setCell ⟨b,i,none⟩ u).heap[b]? = some (Δ cs' ty (0,0)):=by
 rw [heap_setCell_same W b i cs ty u h,hc]
theorem heap_old {W:World} {b:Nat} {o:Obj} {x:Obj} (h:W.heap[b]? = some x):(W.alloc o).heap[b]? = some x:=by
 rw [Below.heap_alloc W o b (lt_block h)]; exact h
theorem sees_calls {b:Nat} {ta:Option Addr} {tn tc:Nat} {T:List Tk} {f:Int × Int} (w:World) {t:Tk} {r:List Tk} (h:PAt b ta tn tc T (t :: r) f w) (k:Int) (s:ByteArray) :
 Calls Tryz.prog 138 #[Φ (some ⟨b,0,none⟩),I J k,Ψ s] w fun e w'=>e = Ω (.bool (isT k s.data.toList t)) /\ Below w.heap.size w w':=by
 have HH:=here_calls w h
 unfold tkAgg at HH
 have HX:Hid (isT k s.data.toList t = ((t.kind == k) && ((bs t.text).toList == s.toList))):=isT_eq k s t
 generalize isT k s.data.toList t = z at *
 generalize t.kind = x1 at *
 generalize t.num = x2 at *
 generalize bs t.text = x3 at *
 generalize t.pl = x4 at *
 have HC:=hid HH
 clear HH h
 cases hk:(x1 == k) with
 | false=>
   rw [hk] at HX
   go_enter Tryz.func138,Tryz.ntmps138
   go_wp2_with fail
   refine HC.out.mono ?_
   rintro e w1 ⟨rfl,hb1⟩
   have HB:Hid (Below w.heap.size w w1):=hb1
   clear hb1
   go_wp2
   go_ret
   exact ⟨ret_bool HX.out.symm,HB.out.alloc HB.out.size _⟩
 | true=>
   rw [hk] at HX
   cases hs:(x3.toList == s.toList) with
   | false=>
     rw [hs] at HX
     go_enter Tryz.func138,Tryz.ntmps138
     go_wp2_with fail
     refine HC.out.mono ?_
     rintro e w1 ⟨rfl,hb1⟩
     have HB:Hid (Below w.heap.size w w1):=hb1
     clear hb1
     go_wp2
     go_ret
     exact ⟨ret_bool HX.out.symm,HB.out.alloc HB.out.size _⟩
   | true=>
     rw [hs] at HX
     go_enter Tryz.func138,Tryz.ntmps138
     go_wp2_with fail
     refine HC.out.mono ?_
     rintro e w1 ⟨rfl,hb1⟩
     have HB:Hid (Below w.heap.size w w1):=hb1
     clear hb1
     go_wp2
     go_ret
     exact ⟨ret_bool HX.out.symm,HB.out.alloc HB.out.size _⟩
theorem nextP_calls {b:Nat} {ta:Option Addr} {tn tc:Nat} {T:List Tk} {f:Int × Int} (w:World) {t:Tk} {r:List Tk} (h:PAt b ta tn tc T (t :: r) f w) (ht:t.kind ≠ 1) :
 Calls Tryz.prog 137 #[Φ (some ⟨b,0,none⟩)] w fun e w'=>e = Ω (tkAgg t) /\ Kp b w w' /\ PAt b ta tn tc T r f w':=by
 have hres:Tryz.f137.results = #[.cell 2 124]:=by kernel_rfl
 have HP:Hid (PAt b ta tn tc T (t :: r) f w):=h
 have hk:(t.kind != 1) = true:=by simpa using ht
 have HH:Hid (∀ w,PAt b ta tn tc T (t :: r) f w -> Calls Tryz.prog 74 #[Φ (some ⟨b,0,none⟩)] w fun e w'=>e = Ω (.agg #[I J t.kind,I J t.num,Ψ (bs t.text),I J (t.pl:Int)]) /\ Below w.heap.size w w'):=fun w h=>here_calls w h
 have hlt:=h.lt
 have hne:¬ b = w.heap.size:=by omega
 clear h
 have HA:Hid (PAt b ta tn tc T (t :: r) f (w.alloc (Δ #[I J 0,I J 0,Ψ ⟨#[]⟩,I J 0] 124))):=HP.out.below ((Below.refl _ _).alloc (Nat.le_refl _) _)
 have HT:Hid (∀ k,T.drop k = t :: r -> T.drop (k + 1) = r /\ k + 1 < T.length):=fun k hk=>HP.out.more ht hk
 clear ht
 unfold tkAgg
 generalize t.kind = x1 at *
 generalize t.num = x2 at *
 generalize bs t.text = x3 at *
 generalize t.pl = x4 at *
 go_enter Tryz.func137,Tryz.ntmps137
 go_wp2_with fail
 refine (HH.out _ HA.out).mono ?_
 rintro e w1 ⟨rfl,hb1⟩
 have HB:Hid (Below w.heap.size w w1):=below_box' hb1
 have ho:w1.heap[w.heap.size]? = some (Δ #[I J 0,I J 0,Ψ ⟨#[]⟩,I J 0] 124 (0,0)):=by rw [hb1.block _ (by simp)]; exact heap_alloc_new w _
 have HP1:Hid (PAt b ta tn tc T (t :: r) f w1):=HA.out.below hb1
 clear hb1 HA
 obtain ⟨k,tb,to,hdr,hkn,hn,hkT,rfl,hlow,hb,-,-,-,-⟩:=HP1.out.cells
 obtain ⟨hd2,hk2⟩:=HT.out k hdr
 have HD:Hid (T.drop (k + 1) = r /\ k + 1 < T.length):=⟨hd2,hk2⟩
 have hz1:w.heap.size < w1.heap.size:=lt_block ho
 have c1:∀ o,(w1.alloc o).cell? ⟨b,1,none⟩ = some (I J (k:Int)):=fun o=>blk (heap_old hb) rfl
 have c2:∀ o,(w1.alloc o).frozen? ⟨b,1,none⟩ = false:=fun o=>blkf 1 (heap_old hb)
 have z0:∀ o,(w1.alloc o).cell? ⟨w.heap.size,0,none⟩ = some (I J 0):=fun o=>blk (heap_old ho) rfl
 have z1:∀ o,(w1.alloc o).cell? ⟨w.heap.size,1,none⟩ = some (I J 0):=fun o=>blk (heap_old ho) rfl
 have z2:∀ o,(w1.alloc o).cell? ⟨w.heap.size,2,none⟩ = some (Ψ ⟨#[]⟩):=fun o=>blk (heap_old ho) rfl
 have z3:∀ o,(w1.alloc o).cell? ⟨w.heap.size,3,none⟩ = some (I J 0):=fun o=>blk (heap_old ho) rfl
 have zf:∀ o i,(w1.alloc o).frozen? ⟨w.heap.size,i,none⟩ = false:=fun o i=>blkf i (heap_old ho)
 have hne2:¬ b = w1.heap.size:=by omega
 have hne3:¬ w.heap.size = w1.heap.size:=by omega
 have HO:Hid (w1.heap[b]? = some (Δ #[.slice (some ⟨tb,to,none⟩) tn tc,I J (k:Int),I J f.1,I J f.2] 88 (0,0)) /\ w.heap.size < w1.heap.size):=⟨hb,hz1⟩
 clear hb ho hdr hd2 hk2 HH
 go_wp2
 refine bodyPost_ret (v:=.agg #[I J x1,I J x2,Ψ x3,I J (x4:Int)]) ?_ rfl ⟨rfl,?_⟩
 ·simp only [results,hres]
  go_simp
 ·have hk:=(((((((Kp.of_below (b:=b) HB.out).alloc (Δ #[I J x1,I J x2,Ψ x3,I J (x4:Int)] 124)).setCell 1 (I J ((k:Int) + 1))).setNew (Nat.le_refl _) 0 (I J x1)).setNew (Nat.le_refl _) 1 (I J x2)).setNew (Nat.le_refl _) 2 (.string x3)).setNew (Nat.le_refl _) 3 (I J (x4:Int)))
  refine ⟨hk,HP.out.kp (k:=k + 1) hk HD.out.1 HD.out.2 ?_⟩
  refine heap_other (heap_other (heap_other (heap_other (heap_put (heap_old HO.out.1) ?_) hne) hne) hne) hne
  simp
set_option maxRecDepth 20000
set_option maxHeartbeats 1000000
theorem fld48_0 (x y z:Int) (s:ByteArray) (w:World):(Instr.field 124 (.agg #[I J x,I J y,Ψ s,I J z]) 0).run Tryz.prog w = .ok (I J x) w:=by kernel_rfl
theorem fld48_2 (x y z:Int) (s:ByteArray) (w:World):(Instr.field 124 (.agg #[I J x,I J y,Ψ s,I J z]) 2).run Tryz.prog w = .ok (.string s) w:=by kernel_rfl
theorem fld48_3 (x y z:Int) (s:ByteArray) (w:World):(Instr.field 124 (.agg #[I J x,I J y,Ψ s,I J z]) 3).run Tryz.prog w = .ok (I J z) w:=by kernel_rfl
theorem wrong_calls {b:Nat} {ta:Option Addr} {tn tc:Nat} {T:List Tk} {f:Int × Int} (w:World) {t:Tk} {r:List Tk} (h:PAt b ta tn tc T (t :: r) f w) :
 Calls Tryz.prog 136 #[Φ (some ⟨b,0,none⟩)] w fun e w'=>e = Ω (.agg #[I J 70,I J (t.pl:Int)]) /\ Kp b w w' /\ PAt b ta tn tc T (t :: r) (70,t.pl) w':=by
 have hres:Tryz.f136.results = #[.cell 2 32]:=by kernel_rfl
 have HP:Hid (PAt b ta tn tc T (t :: r) f w):=h
 have HH:Hid (∀ w,PAt b ta tn tc T (t :: r) f w -> Calls Tryz.prog 74 #[Φ (some ⟨b,0,none⟩)] w fun e w'=>e = Ω (.agg #[I J t.kind,I J t.num,Ψ (bs t.text),I J (t.pl:Int)]) /\ Below w.heap.size w w'):=fun w h=>here_calls w h
 have hlt:=h.lt
 have hne:¬ b = w.heap.size:=by omega
 clear h
 have HA:Hid (PAt b ta tn tc T (t :: r) f (w.alloc (Δ #[I J 0,I J 0] 32))):=HP.out.below ((Below.refl _ _).alloc (Nat.le_refl _) _)
 have hfd:=fld48_3
 go_enter Tryz.func136,Tryz.ntmps136
 go_wp2_with fail
 refine (HH.out _ HA.out).mono ?_
 rintro e w1 ⟨rfl,hb1⟩
 have HB:Hid (Below w.heap.size w w1):=below_box' hb1
 have ho:w1.heap[w.heap.size]? = some (Δ #[I J 0,I J 0] 32 (0,0)):=by rw [hb1.block _ (by simp)]; exact heap_alloc_new w _
 have HP1:Hid (PAt b ta tn tc T (t :: r) f w1):=HA.out.below hb1
 clear hb1 HA
 obtain ⟨k,tb,to,hdr,hkn,hn,hkT,rfl,hlow,hb,-,-,-,-⟩:=HP1.out.cells
 have c1:=blk (i:=2) hb rfl
 have c2:=blk (i:=3) hb rfl
 have cf2:=blkf 2 hb
 have cf3:=blkf 3 hb
 have z0:=blk (i:=0) ho rfl
 have z1:=blk (i:=1) ho rfl
 have zf0:=blkf 0 ho
 have zf1:=blkf 1 ho
 have HO:Hid (w1.heap[b]? = some (Δ #[.slice (some ⟨tb,to,none⟩) tn tc,I J (k:Int),I J f.1,I J f.2] 88 (0,0)) /\ T.drop k = t :: r):=⟨hb,hdr⟩
 generalize f.1 = f1 at *
 generalize f.2 = f2 at *
 clear hb ho hdr HH
 go_wp2
 refine bodyPost_ret (v:=.agg #[I J 70,I J (t.pl:Int)]) ?_ rfl ⟨rfl,?_⟩
 ·simp only [results,hres]
  go_simp
 ·have hk:=((((Kp.of_below (b:=b) HB.out).setCell 2 (I J 70)).setCell 3 (I J (t.pl:Int))).setNew (Nat.le_refl _) 0 (I J 70)).setNew (Nat.le_refl _) 1 (I J (t.pl:Int))
  refine ⟨hk,HP.out.kp (k:=k) hk HO.out.2 hkT ?_⟩
  exact heap_other (heap_other (heap_put (heap_put HO.out.1 rfl) rfl) hne) hne
theorem tooMany_calls {b:Nat} {ta:Option Addr} {tn tc:Nat} {T:List Tk} {f:Int × Int} (w:World) {t:Tk} {r:List Tk} (h:PAt b ta tn tc T (t :: r) f w) :
 Calls Tryz.prog 75 #[Φ (some ⟨b,0,none⟩)] w fun e w'=>e = Ω (.tuple #[]) /\ Kp b w w' /\ PAt b ta tn tc T (t :: r) (flt [(t.pl:Int)] f) w':=by
 have HP:Hid (PAt b ta tn tc T (t :: r) f w):=h
 have HH:Hid (∀ w,PAt b ta tn tc T (t :: r) f w -> Calls Tryz.prog 74 #[Φ (some ⟨b,0,none⟩)] w fun e w'=>e = Ω (.agg #[I J t.kind,I J t.num,Ψ (bs t.text),I J (t.pl:Int)]) /\ Below w.heap.size w w'):=fun w h=>here_calls w h
 obtain ⟨k,tb,to,hdr,hkn,hn,hkT,rfl,hlow,hb,-,-,-,-⟩:=h.cells
 have c2:=blk (i:=2) hb rfl
 by_cases h0:f.1 = 0
 ·have HF:Hid (flt [(t.pl:Int)] f = (72,(t.pl:Int))):=by show _ = _; unfold flt; rw [if_pos h0]
  have hf:(f.1 == 0) = true:=by rw [beq_iff_eq]; exact h0
  clear hdr h h0 hb
  have hfd:=fld48_3
  go_enter Tryz.func75,Tryz.ntmps75
  go_wp2_with fail
  refine (HH.out _ HP.out).mono ?_
  rintro e w1 ⟨rfl,hb1⟩
  have HB:Hid (Below w.heap.size w w1):=hb1
  have HP1:Hid (PAt b (some ⟨tb,to,none⟩) tn tc T (t :: r) f w1):=HP.out.below hb1
  clear hb1 c2 k hkn hkT
  obtain ⟨k,tb',to',hdr,hkn,_,hkT,he,_,hb,-,-,-,-⟩:=HP1.out.cells
  have c3:=blk (i:=2) hb rfl
  have c4:=blk (i:=3) hb rfl
  have cf2:=blkf 2 hb
  have cf3:=blkf 3 hb
  have HO:Hid (w1.heap[b]? = some (Δ #[.slice (some ⟨tb,to,none⟩) tn tc,I J (k:Int),I J f.1,I J f.2] 88 (0,0)) /\ T.drop k = t :: r):=⟨hb,hdr⟩
  clear hb hdr HH he
  go_wp2
  go_end0
  refine ⟨rfl,?_⟩
  have hk:=((Kp.of_below (b:=b) HB.out).setCell 2 (I J 72)).setCell 3 (I J (t.pl:Int))
  rw [HF.out]
  refine ⟨hk,HP.out.kp (k:=k) hk HO.out.2 hkT ?_⟩
  exact heap_put (heap_put HO.out.1 rfl) rfl
 ·have HF:Hid (flt [(t.pl:Int)] f = f):=by show _ = _; unfold flt; rw [if_neg h0]
  have hf:(f.1 == 0) = false:=by rw [beq_eq_false_iff_ne]; exact h0
  clear hdr h h0 hb
  go_enter Tryz.func75,Tryz.ntmps75
  go_wp2
  go_end0
  rw [HF.out]
  exact ⟨rfl,Kp.refl _ _,HP.out⟩
end Go.Proofs.YtlaodgdlkkmmeaaGreat
