/-
  What was said so far in memory: the checker's block, its rows, the names; a world that is as it was but for some blocks. The checker's block and its rows: what a store, an append leaves of them; what may be said so far. Whether a number is among others: slices.Index, slices.Contains.
-/
import Derived.Maps.OwnSet
import Derived.StringKeys
import Derived.Test.YtlaodgdlkkmmeaaGreatCkB
import Derived.Test.YtlaodgdlkkmmeaaGreatApp
namespace Go.Proofs.YtlaodgdlkkmmeaaGreat
open Go.RowKit Go.Deep Go.Maps
open Go.Value renaming int->I
open Go.IntKind renaming i64->J
/-- As it was, but for some blocks. -/
structure Fr (O:Nat -> Prop) (w w':World):Prop where
 os:w'.os = w.os
 tape:w'.tape = w.tape
 output:w'.output = w.output
 size:w.heap.size <= w'.heap.size
 block:∀ g,g < w.heap.size -> ¬ O g -> w'.heap[g]? = w.heap[g]?
theorem Fr.refl (O:Nat -> Prop) (w:World):Fr O w w:=⟨rfl,rfl,rfl,Nat.le_refl _,fun _ _ _=>rfl⟩
theorem Fr.trans {O O':Nat -> Prop} {w w1 w2:World} (h:Fr O w w1) (k:Fr O' w1 w2) (hO:∀ g,O' g -> O g \/ w.heap.size <= g):Fr O w w2:=
 ⟨k.os.trans h.os,k.tape.trans h.tape,k.output.trans h.output,Nat.le_trans h.size k.size,fun g hg hb=>(k.block g (Nat.lt_of_lt_of_le hg h.size) (fun ho=>by rcases hO g ho with h1 | h1; exact hb h1; omega)).trans (h.block g hg hb)⟩
theorem Fr.of_below {O:Nat -> Prop} {w w':World} (h:Below w.heap.size w w'):Fr O w w':=⟨h.os,h.tape,h.output,h.size,fun g hg _=>h.block g hg⟩
theorem Fr.then_below {O:Nat -> Prop} {w w1 w2:World} (h:Fr O w w1) (k:Below w1.heap.size w1 w2):Fr O w w2:=h.trans (Fr.of_below (O:=O) k) (fun _ ho=>.inl ho)
theorem Fr.then_new {O:Nat -> Prop} {w w1 w2:World} (h:Fr O w w1) (k:Below w.heap.size w1 w2):Fr O w w2:=
 ⟨k.os.trans h.os,k.tape.trans h.tape,k.output.trans h.output,Nat.le_trans h.size k.size,fun g hg hb=>(k.block g hg).trans (h.block g hg hb)⟩
theorem Fr.below {O:Nat -> Prop} {B:Nat} {w w':World} (h:Fr O w w') (hB:∀ g,O g -> B <= g) (hs:B <= w.heap.size):Below B w w':=
 ⟨h.os,h.tape,h.output,h.size,fun g hg=>h.block g (by omega) (fun ho=>by have:=hB g ho; omega)⟩
theorem Fr.setCell {O:Nat -> Prop} {b:Nat} {w w1:World} (h:Fr O w w1) (hb:O b \/ w.heap.size <= b) (i:Nat) (u:Value):Fr O w (w1.setCell ⟨b,i,none⟩ u):=
 ⟨h.os,h.tape,h.output,by simpa [World.setCell] using h.size,fun k hk ho=>by
  rw [Below.heap_setCell w1 _ u k (by show k ≠ b; intro e; subst e; rcases hb with h1 | h1; exact ho h1; omega)]; exact h.block k hk ho⟩
theorem Fr.alloc {O:Nat -> Prop} {w w1:World} (h:Fr O w w1) (o:Obj):Fr O w (w1.alloc o):=h.then_below ((Below.refl _ _).alloc (Nat.le_refl _) o)
theorem Fr.drew {O:Nat -> Prop} {w w1:World} (h:Fr O w w1):Fr O w w1.drew:=h.then_below (Below.refl _ _).drew
theorem Fr.grown {O:Nat -> Prop} {w w1 w2:World} {row:Option Nat} (h:Fr O w w1) (hg:w1.grownBy w2 row) (hr:∀ k,row = some k -> O k \/ w.heap.size <= k):Fr O w w2:=
 ⟨hg.os.trans h.os,hg.tape.trans h.tape,hg.output.trans h.output,Nat.le_trans h.size hg.size,fun g hk ho=>
  (hg.block g (Nat.lt_of_lt_of_le hk h.size) (fun e=>by rcases hr g e.symm with h1 | h1; exact ho h1; omega)).trans (h.block g hk ho)⟩
theorem Fr.wide {O O':Nat -> Prop} {w w':World} (h:Fr O w w') (hO:∀ g,g < w.heap.size -> O g -> O' g):Fr O' w w':=⟨h.os,h.tape,h.output,h.size,fun g hg ho=>h.block g hg (fun h1=>ho (hO g hg h1))⟩
theorem Fr.heap {O:Nat -> Prop} {w w':World} {g:Nat} {x:Obj} (h:Fr O w w') (hx:w.heap[g]? = some x) (ho:¬ O g):w'.heap[g]? = some x:=by rw [h.block g (lt_block hx) ho]; exact hx
def mnV (m:Mn):Value:=.agg #[.bool m.isText,.string (bs m.text),I J m.place,I J m.num]
def flV (f:Int × Int):Value:=.agg #[I J f.1,I J f.2]
def dfCells (d:Df):List Value:=[I J d.op,I J d.num,I J d.a,I J d.b]
def dfRow (l:List Df):List Value:=l.flatMap dfCells
def itRow (l:List Int):List Value:=l.map (I J ·)
def pcCells (p:Int × Int):List Value:=[I J p.1,I J p.2]
def pcRow (l:List (Int × Int)):List Value:=l.flatMap pcCells
theorem dfRow_snoc (l:List Df) (d:Df):dfRow (l ++ [d]) = dfRow l ++ dfCells d:=by simp [dfRow]
theorem itRow_snoc (l:List Int) (d:Int):itRow (l ++ [d]) = itRow l ++ [I J d]:=by simp [itRow]
theorem pcRow_snoc (l:List (Int × Int)) (d:Int × Int):pcRow (l ++ [d]) = pcRow l ++ pcCells d:=by simp [pcRow]
/-- How an element of the names reads. -/
def mnD (m:Mn):DataW Unit:=.agg [.lit (.bool m.isText),.lit (.string m.text),.lit (.int .i64 m.place),.lit (.int .i64 m.num)]
def mnE:Value -> Option (DataW Unit × List MemPlace)
 | .agg cs=>
   match cs.toList with
   | [.bool t,.string s,I J p,I J n]=>some (mnD ⟨t,s.data.toList,p,n⟩,[])
   | _=>none
 | _=>none
theorem mnE_mk (m:Mn):mnE (mnV m) = some (mnD m,[]):=by
 simp [mnE,mnV,bs_list]
theorem mnE_inv {v:Value} {m:Mn} {ps:List MemPlace} (h:mnE v = some (mnD m,ps)):v = mnV m:=by
 unfold mnE at h
 split at h
 ·rename_i cs
  split at h
  ·rename_i t s p n hcs
   simp [mnD] at h
   obtain ⟨⟨h1,h2,h3,h4⟩,_⟩:=h
   have hc:cs = #[.bool t,.string s,I J p,I J n]:=by
    apply Array.toList_inj.1
    rw [hcs]
   subst hc
   subst h1 h3 h4
   simp only [mnV,<- h2,bs_of]
  ·cases h
 ·cases h
/-- The names as a map in memory. -/
def NmAt (w:World) (mb:Nat) (names:List (List UInt8 × Mn)):Prop:=
 ∃ n D,n <= names.length /\ w.ownsMap Tryz.prog 9 mnE mb n D /\ ∀ s:List UInt8,Maps.has D (.string s) = (lookN names s).isSome /\ ∀ m,lookN names s = some m -> ∀ z,D.atKey (.string s) z = mnD m
theorem key9:Keyed Tryz.prog 9:=string_keyed Tryz.underlying9
theorem zero109 (w:World):(zeroValue 109).run Tryz.prog w = .ok (mnV mn0) w:=by kernel_rfl
theorem NmAt.lt {w:World} {mb:Nat} {names:List (List UInt8 × Mn)} (h:NmAt w mb names):mb < w.heap.size:=by
 obtain ⟨n,D,_,ho,_⟩:=h
 exact ho.lt
theorem NmAt.keep {w w':World} {mb:Nat} {names:List (List UInt8 × Mn)} (h:NmAt w mb names) (hk:w'.heap[mb]? = w.heap[mb]?):NmAt w' mb names:=by
 obtain ⟨n,D,hn,⟨es,clock,hb,F,hs,hD⟩,hr⟩:=h
 exact ⟨n,D,hn,⟨es,clock,hk.trans hb,F,hs,hD⟩,hr⟩
theorem NmAt.isMap {w:World} {mb:Nat} {names:List (List UInt8 × Mn)} (h:NmAt w mb names):∃ es clock,w.heap[mb]? = some (.map es clock):=by
 obtain ⟨n,D,hn,⟨es,clock,hb,_⟩,hr⟩:=h
 exact ⟨es,clock,hb⟩
theorem nm_look {w:World} {mb:Nat} {names:List (List UInt8 × Mn)} (h:NmAt w mb names) (s:List UInt8) (hs:s.length <= maxLen) :
 (Instr.lookup 70 (.map (some mb)) (.string (bs s)) true).run Tryz.prog w = .ok (.tuple #[mnV ((lookN names s).getD mn0),.bool (lookN names s).isSome]) w:=by
 obtain ⟨n,D,hn,ho,hr⟩:=h
 have hkey:keyOf Tryz.prog 9 (.string (bs s)) = some (.string s):=by
  have:=WideMaps.keyOf_string_mk (P:=Tryz.prog) (k:=9) Tryz.underlying9 (s:=bs s) (by rw [bs_size]; exact hs)
  rw [bs_list] at this; exact this
 obtain ⟨v,ps,hrun,hv⟩:=ho.look_ok key9 Tryz.underlying70 (zero109 w) (mnE_mk mn0) hkey
 rw [hrun,(hr s).1]
 cases hl:lookN names s with
 | none=>
   have hh:Maps.has D (.string s) = false:=by rw [(hr s).1,hl]; rfl
   rw [Maps.atKey_of_not_has hh] at hv
   rw [mnE_inv hv]; rfl
 | some m=>
   rw [(hr s).2 m hl] at hv
   rw [mnE_inv hv]; rfl
theorem nm_put {w:World} {mb:Nat} {names:List (List UInt8 × Mn)} (h:NmAt w mb names) (hn:names.length < 1000) (s:List UInt8) (hs:s.length <= maxLen) (m:Mn) :
 ∃ w',(Instr.mapUpdate 70 (.map (some mb)) (.string (bs s)) (mnV m)).run Tryz.prog w = .ok () w' /\ NmAt w' mb ((s,m) :: names) /\ w.grownBy w' (some mb):=by
 obtain ⟨n,D,hn1,ho,hr⟩:=h
 have hkey:keyOf Tryz.prog 9 (.string (bs s)) = some (.string s):=by
  have:=WideMaps.keyOf_string_mk (P:=Tryz.prog) (k:=9) Tryz.underlying9 (s:=bs s) (by rw [bs_size]; exact hs)
  rw [bs_list] at this; exact this
 obtain ⟨w',hrun,ho',hg⟩:=ho.update key9 Tryz.underlying70 (by unfold maxLen; omega) hkey (mnE_mk m)
 refine ⟨w',hrun,⟨n + 1,_,by simp; omega,ho',fun t=>?_⟩,hg⟩
 by_cases e:s = t
 ·subst e
  refine ⟨by rw [Maps.has_put_same ho.isMap (show WideAt.IsKeyLit (.string s) from trivial)]; simp [lookN],fun m' hm' z=>?_⟩
  simp [lookN] at hm'
  rw [Maps.atKey_put_same ho.isMap (show WideAt.IsKeyLit (.string s) from trivial),hm']
 ·have hne:(Lit.string t) ≠ .string s:=fun h=>e (by cases h; rfl)
  refine ⟨by rw [Maps.has_put_other hne,(hr t).1]; simp [lookN,e],fun m' hm' z=>?_⟩
  simp [lookN,e] at hm'
  rw [Maps.atKey_put_other hne]
  exact (hr t).2 m' hm' z
theorem nm_made (w:World):NmAt (w.alloc (.map #[] 0)) w.heap.size []:=by
 refine ⟨0,.map [],Nat.le_refl _,World.ownsMap_made w _ _ _,fun s=>⟨rfl,fun m hm=>by simp [lookN] at hm⟩⟩
open Go.Obj renaming cells->Δ
/-- The rows of the checker, and the block of its names. -/
structure Sl where
 dv:Value
 sv:Value
 pv:Value
 vv:Value
 mb:Nat
def ckCells (c:Ck) (s:Sl):Array Value:=#[.string (bs c.letters),s.dv,s.sv,s.pv,I J c.mode,.bool c.banded,I J c.lo,I J c.hi,I J c.front,I J c.back,I J c.least,s.vv,.map (some s.mb),
 .bool (c.had 0),.bool (c.had 1),.bool (c.had 2),.bool (c.had 3),.bool (c.had 4),.bool (c.had 5),.bool (c.had 6),.bool (c.had 7),.bool (c.had 8),.bool (c.had 9),.bool (c.had 10),I J c.pl,I J c.mat,I J c.mis]
structure CkAt (O:Nat -> Prop) (b:Nat) (s:Sl) (c:Ck) (w:World):Prop where
 block:w.heap[b]? = some (Δ (ckCells c s) 73 (0,0))
 defs:w.ownsRow 0 43 4 s.dv c.defs.length (dfRow c.defs)
 subst:w.ownsRow 0 3 1 s.sv c.subst.length (itRow c.subst)
 pieces:w.ownsRow 0 80 2 s.pv c.pieces.length (pcRow c.pieces)
 values:w.ownsRow 0 3 1 s.vv c.values.length (itRow c.values)
 names:NmAt w s.mb c.names
 apart:∀ g,s.sv.ownBlock = some g -> s.vv.ownBlock ≠ some g
 inB:O b
 inD:∀ g,s.dv.ownBlock = some g -> O g
 inS:∀ g,s.sv.ownBlock = some g -> O g
 inP:∀ g,s.pv.ownBlock = some g -> O g
 inV:∀ g,s.vv.ownBlock = some g -> O g
 inM:O s.mb
theorem own_lt {w:World} {base:Nat} {e:TypeId} {size:Nat} {v:Value} {n:Nat} {xs:List Value} (h:w.ownsRow base e size v n xs) {g:Nat} (hg:v.ownBlock = some g):g < w.heap.size /\ ∃ cs,w.heap[g]? = some (Δ cs e (0,0)):=by
 rcases h.2 with ⟨rfl,_⟩ | ⟨g',cap,cur,rfl,_,hb,_⟩
 ·cases hg
 ·simp [Value.ownBlock] at hg; subst hg; exact ⟨lt_block hb,cur,hb⟩
theorem own_ne {w:World} {base:Nat} {e ty:TypeId} {size:Nat} {v:Value} {n:Nat} {xs:List Value} (h:w.ownsRow base e size v n xs) {g:Nat} {cs:Array Value} {f:Nat × Nat} (hb:w.heap[g]? = some (Δ cs ty f)) (hne:e ≠ ty):v.ownBlock ≠ some g:=fun he=>by
 obtain ⟨_,cs',h2⟩:=own_lt h he
 rw [hb] at h2; cases h2; exact hne rfl
theorem own_nm {w:World} {base:Nat} {e:TypeId} {size:Nat} {v:Value} {n:Nat} {xs:List Value} (h:w.ownsRow base e size v n xs) {g:Nat} {names:List (List UInt8 × Mn)} (hb:NmAt w g names):v.ownBlock ≠ some g:=fun he=>by
 obtain ⟨_,cs',h2⟩:=own_lt h he
 obtain ⟨es,cl,h3⟩:=hb.isMap
 rw [h3] at h2; cases h2
theorem own_two {w:World} {b1 b2:Nat} {e1 e2:TypeId} {z1 z2:Nat} {v1 v2:Value} {n1 n2:Nat} {xs1 xs2:List Value} (h1:w.ownsRow b1 e1 z1 v1 n1 xs1) (h2:w.ownsRow b2 e2 z2 v2 n2 xs2) (hne:e1 ≠ e2):∀ g,v1.ownBlock = some g -> v2.ownBlock ≠ some g:=fun g hg=>by
 obtain ⟨_,cs,h3⟩:=own_lt h1 hg
 exact own_ne h2 h3 (fun e=>hne e.symm)
theorem nm_ne {w:World} {g:Nat} {names:List (List UInt8 × Mn)} (hb:NmAt w g names) {b:Nat} {cs:Array Value} {ty:TypeId} {f:Nat × Nat} (h:w.heap[b]? = some (Δ cs ty f)):g ≠ b:=fun e=>by
 obtain ⟨es,cl,h3⟩:=hb.isMap
 rw [e,h] at h3; cases h3
theorem own_row {w w':World} {base:Nat} {e:TypeId} {size:Nat} {v:Value} {n:Nat} {xs:List Value} (h:w.ownsRow base e size v n xs) {row:Option Nat} (hg:w.grownBy w' row) (hne:∀ g,v.ownBlock = some g -> row ≠ some g):w'.ownsRow base e size v n xs:=
 owned_of_block h fun g _ hv hb=>hg.block g (lt_block hb) (fun e=>hne g hv e.symm)
section
variable {O:Nat -> Prop} {b:Nat} {s:Sl} {c:Ck} {w w':World}
theorem CkAt.lt (h:CkAt O b s c w):b < w.heap.size:=lt_block h.block
theorem CkAt.keep (h:CkAt O b s c w) (hk:∀ g,g < w.heap.size -> O g -> w'.heap[g]? = w.heap[g]?):CkAt O b s c w':=
 ⟨by rw [hk b h.lt h.inB]; exact h.block,owned_of_block h.defs fun g _ hv hb=>hk g (lt_block hb) (h.inD g hv),owned_of_block h.subst fun g _ hv hb=>hk g (lt_block hb) (h.inS g hv),
  owned_of_block h.pieces fun g _ hv hb=>hk g (lt_block hb) (h.inP g hv),owned_of_block h.values fun g _ hv hb=>hk g (lt_block hb) (h.inV g hv),h.names.keep (hk _ h.names.lt h.inM),h.apart,h.inB,h.inD,h.inS,h.inP,h.inV,h.inM⟩
theorem CkAt.below (h:CkAt O b s c w) (hb:Below w.heap.size w w'):CkAt O b s c w':=h.keep fun g hg _=>hb.block g hg
theorem CkAt.alloc (h:CkAt O b s c w) (o:Obj):CkAt O b s c (w.alloc o):=h.below ((Below.refl _ _).alloc (Nat.le_refl _) o)
theorem CkAt.fr {O':Nat -> Prop} (h:CkAt O b s c w) (hf:Fr O' w w') (hn:∀ g,O g -> ¬ O' g):CkAt O b s c w':=h.keep fun g hg ho=>hf.block g hg (hn g ho)
theorem CkAt.wide {O':Nat -> Prop} (h:CkAt O b s c w) (hO:∀ g,O g -> O' g):CkAt O' b s c w:=
 ⟨h.block,h.defs,h.subst,h.pieces,h.values,h.names,h.apart,hO _ h.inB,fun g hg=>hO _ (h.inD g hg),fun g hg=>hO _ (h.inS g hg),fun g hg=>hO _ (h.inP g hg),fun g hg=>hO _ (h.inV g hg),hO _ h.inM⟩
/-- All its blocks are there. -/
theorem CkAt.tight (h:CkAt O b s c w):CkAt (fun g=>O g /\ g < w.heap.size) b s c w:=
 ⟨h.block,h.defs,h.subst,h.pieces,h.values,h.names,h.apart,⟨h.inB,h.lt⟩,fun g hg=>⟨h.inD g hg,(own_lt h.defs hg).1⟩,fun g hg=>⟨h.inS g hg,(own_lt h.subst hg).1⟩,fun g hg=>⟨h.inP g hg,(own_lt h.pieces hg).1⟩,fun g hg=>⟨h.inV g hg,(own_lt h.values hg).1⟩,h.inM,h.names.lt⟩
/-- A store into a cell of the checker's block that is no row's. -/
theorem CkAt.put (h:CkAt O b s c w) {i:Nat} {u:Value} {c':Ck} (hc:(ckCells c s).setIfInBounds i u = ckCells c' s) (h1:c'.defs = c.defs) (h2:c'.subst = c.subst) (h3:c'.pieces = c.pieces) (h4:c'.values = c.values) (h5:c'.names = c.names) :
 CkAt O b s c' (w.setCell ⟨b,i,none⟩ u):=by
 have hne:∀ g,g ≠ b -> (w.setCell ⟨b,i,none⟩ u).heap[g]? = w.heap[g]?:=fun g hg=>Below.heap_setCell w _ u g hg
 refine ⟨heap_put h.block hc,?_,?_,?_,?_,?_,h.apart,h.inB,h.inD,h.inS,h.inP,h.inV,h.inM⟩
 ·rw [h1]; exact owned_of_block h.defs fun g _ hv _=>hne g (fun e=>own_ne h.defs h.block (by decide) (e ▸ hv))
 ·rw [h2]; exact owned_of_block h.subst fun g _ hv _=>hne g (fun e=>own_ne h.subst h.block (by decide) (e ▸ hv))
 ·rw [h3]; exact owned_of_block h.pieces fun g _ hv _=>hne g (fun e=>own_ne h.pieces h.block (by decide) (e ▸ hv))
 ·rw [h4]; exact owned_of_block h.values fun g _ hv _=>hne g (fun e=>own_ne h.values h.block (by decide) (e ▸ hv))
 ·rw [h5]; exact h.names.keep (hne _ (nm_ne h.names h.block))
/-- A row more among the definitions. -/
theorem CkAt.addDef (h:CkAt O b s c w) {d:Df} {v':Value} (hown:w'.ownsRow 0 43 4 v' (c.defs.length + 1) (dfRow c.defs ++ dfCells d)) (hg:w.grownBy w' s.dv.ownBlock) (hfr:∀ g,v'.ownBlock = some g -> some g = s.dv.ownBlock \/ w.heap.size <= g) :
 w'.cell? ⟨b,1,none⟩ = some s.dv /\ w'.frozen? ⟨b,1,none⟩ = false /\ CkAt (fun g=>O g \/ w.heap.size <= g) b { s with dv:=v' } { c with defs:=c.defs ++ [d] } (w'.setCell ⟨b,1,none⟩ v'):=by
 have hb:w'.heap[b]? = some (Δ (ckCells c s) 73 (0,0)):=by rw [hg.block b h.lt (fun e=>own_ne h.defs h.block (by decide) e.symm)]; exact h.block
 have hne:∀ g,g ≠ b -> (w'.setCell ⟨b,1,none⟩ v').heap[g]? = w'.heap[g]?:=fun g hg=>Below.heap_setCell w' _ _ g hg
 have hS:=own_row h.subst hg (own_two h.subst h.defs (by decide))
 have hP:=own_row h.pieces hg (own_two h.pieces h.defs (by decide))
 have hV:=own_row h.values hg (own_two h.values h.defs (by decide))
 have hM:NmAt w' s.mb c.names:=h.names.keep (hg.block _ h.names.lt (fun e=>own_nm h.defs h.names e.symm))
 refine ⟨blk hb rfl,blkf 1 hb,heap_put hb rfl,?_,?_,?_,?_,?_,h.apart,.inl h.inB,?_,fun g hg=>.inl (h.inS g hg),fun g hg=>.inl (h.inP g hg),fun g hg=>.inl (h.inV g hg),.inl h.inM⟩
 ·have:w'.ownsRow 0 43 4 v' (c.defs ++ [d]).length (dfRow (c.defs ++ [d])):=by rw [dfRow_snoc,List.length_append]; exact hown
  exact owned_of_block this fun g _ hv _=>hne g (fun e=>own_ne this hb (by decide) (e ▸ hv))
 ·exact owned_of_block hS fun g _ hv _=>hne g (fun e=>own_ne hS hb (by decide) (e ▸ hv))
 ·exact owned_of_block hP fun g _ hv _=>hne g (fun e=>own_ne hP hb (by decide) (e ▸ hv))
 ·exact owned_of_block hV fun g _ hv _=>hne g (fun e=>own_ne hV hb (by decide) (e ▸ hv))
 ·exact hM.keep (hne _ (nm_ne hM hb))
 ·intro g hv
  rcases hfr g hv with h1 | h1
  ·exact .inl (h.inD g h1.symm)
  ·exact .inr h1
/-- A number more among the values. -/
theorem CkAt.addVal (h:CkAt O b s c w) {d:Int} {v':Value} (hown:w'.ownsRow 0 3 1 v' (c.values.length + 1) (itRow c.values ++ [I J d])) (hg:w.grownBy w' s.vv.ownBlock) (hfr:∀ g,v'.ownBlock = some g -> some g = s.vv.ownBlock \/ w.heap.size <= g) :
 w'.cell? ⟨b,11,none⟩ = some s.vv /\ w'.frozen? ⟨b,11,none⟩ = false /\ CkAt (fun g=>O g \/ w.heap.size <= g) b { s with vv:=v' } { c with values:=c.values ++ [d] } (w'.setCell ⟨b,11,none⟩ v'):=by
 have hb:w'.heap[b]? = some (Δ (ckCells c s) 73 (0,0)):=by rw [hg.block b h.lt (fun e=>own_ne h.values h.block (by decide) e.symm)]; exact h.block
 have hne:∀ g,g ≠ b -> (w'.setCell ⟨b,11,none⟩ v').heap[g]? = w'.heap[g]?:=fun g hg=>Below.heap_setCell w' _ _ g hg
 have hS:=own_row h.subst hg h.apart
 have hP:=own_row h.pieces hg (own_two h.pieces h.values (by decide))
 have hD:=own_row h.defs hg (own_two h.defs h.values (by decide))
 have hM:NmAt w' s.mb c.names:=h.names.keep (hg.block _ h.names.lt (fun e=>own_nm h.values h.names e.symm))
 refine ⟨blk hb rfl,blkf 11 hb,heap_put hb rfl,?_,?_,?_,?_,?_,?_,.inl h.inB,fun g hg=>.inl (h.inD g hg),fun g hg=>.inl (h.inS g hg),fun g hg=>.inl (h.inP g hg),?_,.inl h.inM⟩
 ·exact owned_of_block hD fun g _ hv _=>hne g (fun e=>own_ne hD hb (by decide) (e ▸ hv))
 ·exact owned_of_block hS fun g _ hv _=>hne g (fun e=>own_ne hS hb (by decide) (e ▸ hv))
 ·exact owned_of_block hP fun g _ hv _=>hne g (fun e=>own_ne hP hb (by decide) (e ▸ hv))
 ·have:w'.ownsRow 0 3 1 v' (c.values ++ [d]).length (itRow (c.values ++ [d])):=by rw [itRow_snoc,List.length_append]; exact hown
  exact owned_of_block this fun g _ hv _=>hne g (fun e=>own_ne this hb (by decide) (e ▸ hv))
 ·exact hM.keep (hne _ (nm_ne hM hb))
 ·intro g hs hv
  rcases hfr g hv with h1 | h1
  ·exact h.apart g hs h1.symm
  ·have:=(own_lt h.subst hs).1; omega
 ·intro g hv
  rcases hfr g hv with h1 | h1
  ·exact .inl (h.inV g h1.symm)
  ·exact .inr h1
/-- A piece more. -/
theorem CkAt.addPc (h:CkAt O b s c w) {d:Int × Int} {v':Value} (hown:w'.ownsRow 0 80 2 v' (c.pieces.length + 1) (pcRow c.pieces ++ pcCells d)) (hg:w.grownBy w' s.pv.ownBlock) (hfr:∀ g,v'.ownBlock = some g -> some g = s.pv.ownBlock \/ w.heap.size <= g) :
 w'.cell? ⟨b,3,none⟩ = some s.pv /\ w'.frozen? ⟨b,3,none⟩ = false /\ CkAt (fun g=>O g \/ w.heap.size <= g) b { s with pv:=v' } { c with pieces:=c.pieces ++ [d] } (w'.setCell ⟨b,3,none⟩ v'):=by
 have hb:w'.heap[b]? = some (Δ (ckCells c s) 73 (0,0)):=by rw [hg.block b h.lt (fun e=>own_ne h.pieces h.block (by decide) e.symm)]; exact h.block
 have hne:∀ g,g ≠ b -> (w'.setCell ⟨b,3,none⟩ v').heap[g]? = w'.heap[g]?:=fun g hg=>Below.heap_setCell w' _ _ g hg
 have hS:=own_row h.subst hg (own_two h.subst h.pieces (by decide))
 have hD:=own_row h.defs hg (own_two h.defs h.pieces (by decide))
 have hV:=own_row h.values hg (own_two h.values h.pieces (by decide))
 have hM:NmAt w' s.mb c.names:=h.names.keep (hg.block _ h.names.lt (fun e=>own_nm h.pieces h.names e.symm))
 refine ⟨blk hb rfl,blkf 3 hb,heap_put hb rfl,?_,?_,?_,?_,?_,h.apart,.inl h.inB,fun g hg=>.inl (h.inD g hg),fun g hg=>.inl (h.inS g hg),?_,fun g hg=>.inl (h.inV g hg),.inl h.inM⟩
 ·exact owned_of_block hD fun g _ hv _=>hne g (fun e=>own_ne hD hb (by decide) (e ▸ hv))
 ·exact owned_of_block hS fun g _ hv _=>hne g (fun e=>own_ne hS hb (by decide) (e ▸ hv))
 ·have:w'.ownsRow 0 80 2 v' (c.pieces ++ [d]).length (pcRow (c.pieces ++ [d])):=by rw [pcRow_snoc,List.length_append]; exact hown
  exact owned_of_block this fun g _ hv _=>hne g (fun e=>own_ne this hb (by decide) (e ▸ hv))
 ·exact owned_of_block hV fun g _ hv _=>hne g (fun e=>own_ne hV hb (by decide) (e ▸ hv))
 ·exact hM.keep (hne _ (nm_ne hM hb))
 ·intro g hv
  rcases hfr g hv with h1 | h1
  ·exact .inl (h.inP g h1.symm)
  ·exact .inr h1
theorem own_isI {base:Nat} {v:Value} {l:List Int} (h:w.ownsRow base 3 1 v l.length (itRow l)):∃ ao cap,v = .slice ao l.length cap /\ IsI w ao l:=by
 obtain ⟨ao,cap,rfl⟩:=owned_shape h
 refine ⟨ao,cap,rfl,fun i z hi=>?_⟩
 have hlt:i < l.length:=(List.getElem?_eq_some_iff.1 hi).1
 obtain ⟨g,cap',e,_⟩:=owned_some h (by omega)
 cases e
 refine ⟨g,0,rfl,?_⟩
 rw [Nat.zero_add]
 exact (owned_cells h i _ (by simp [itRow,hi])).1
end
/-- What is asked of a meaning; of what was said. -/
structure MnOk (n:Nat) (m:Mn):Prop where
 text:m.text.length <= maxLen
 place:m.isText = false -> 0 <= m.place /\ m.place < n
 num:-72057594037927936 <= m.num /\ m.num <= 72057594037927936
structure CkOk (c:Ck):Prop where
 vals:∀ v ∈ c.values,-72057594037927936 <= v /\ v <= 72057594037927936
 same:c.defs.length = c.values.length
 few:c.values.length <= 5000
 names:∀ s m,lookN c.names s = some m -> MnOk c.values.length m
 alpha:c.letters ≠ [] -> Al.rightB c.letters = true /\ c.subst.length = c.letters.length * c.letters.length
 sub:c.subst.length <= 400
 pcs:c.pieces.length <= 4
theorem MnOk.more {n n':Nat} {m:Mn} (h:MnOk n m) (hn:n <= n'):MnOk n' m:=⟨h.text,fun e=>⟨(h.place e).1,by have:=(h.place e).2; omega⟩,h.num⟩
theorem layB_ok {c c':Ck} {d:Df} {p:Int} {m:Mn} (h:CkOk c) (hl:layB c d p = .ok (c',m)):CkOk c' /\ MnOk c'.values.length m /\ m.isText = false /\ c'.values.length = c.values.length + 1 /\ c'.subst = c.subst /\ c'.letters = c.letters /\ c'.had = c.had /\ c'.names = c.names /\ c'.pl = c.pl /\ c'.pieces = c.pieces:=by
 unfold layB at hl
 split at hl
 ·cases hl
 ·rename_i hin
  split at hl
  ·cases hl
  ·rename_i hfew
   have hin':inB maxK (rawB c.values d) = true:=by simpa using hin
   rw [inB_iff] at hin'
   cases hl
   refine ⟨⟨?_,by simp [h.same],by have:=h.few; simp; omega,fun s m hs=>(h.names s m hs).more (by simp),h.alpha,h.sub,h.pcs⟩,⟨by simp,fun _=>⟨by simp,by simp; omega⟩,hin'⟩,rfl,by simp,rfl,rfl,rfl,rfl,rfl,rfl⟩
   intro v hv
   rcases List.mem_append.1 hv with h1 | h1
   ·exact h.vals v h1
   ·rw [List.mem_singleton.1 h1]; exact hin'
theorem layB_err {c:Ck} {d:Df} {p:Int} {f:Int × Int} (hl:layB c d p = .error f):f.1 ≠ 0:=by
 unfold layB at hl
 split at hl
 ·cases hl; simp
 ·split at hl
  ·cases hl; simp
  ·cases hl
theorem inB_KV {r:Int} (h:inB maxK r = true):inB maxV r = true:=by
 rw [inB_iff] at h ⊢
 have h1:-72057594037927936 <= r /\ r <= 72057594037927936:=h
 show -144115188075855872 <= r /\ r <= 144115188075855872
 omega
section
variable {O:Nat -> Prop} {b:Nat} {s:Sl} {c:Ck} {w:World}
theorem CkAt.c0 (h:CkAt O b s c w):w.cell? ⟨b,0,none⟩ = some (.string (bs c.letters)):=blk h.block rfl
theorem CkAt.c1 (h:CkAt O b s c w):w.cell? ⟨b,1,none⟩ = some s.dv:=blk h.block rfl
theorem CkAt.c2 (h:CkAt O b s c w):w.cell? ⟨b,2,none⟩ = some s.sv:=blk h.block rfl
theorem CkAt.c3 (h:CkAt O b s c w):w.cell? ⟨b,3,none⟩ = some s.pv:=blk h.block rfl
theorem CkAt.c4 (h:CkAt O b s c w):w.cell? ⟨b,4,none⟩ = some (I J c.mode):=blk h.block rfl
theorem CkAt.c5 (h:CkAt O b s c w):w.cell? ⟨b,5,none⟩ = some (.bool c.banded):=blk h.block rfl
theorem CkAt.c6 (h:CkAt O b s c w):w.cell? ⟨b,6,none⟩ = some (I J c.lo):=blk h.block rfl
theorem CkAt.c7 (h:CkAt O b s c w):w.cell? ⟨b,7,none⟩ = some (I J c.hi):=blk h.block rfl
theorem CkAt.c8 (h:CkAt O b s c w):w.cell? ⟨b,8,none⟩ = some (I J c.front):=blk h.block rfl
theorem CkAt.c9 (h:CkAt O b s c w):w.cell? ⟨b,9,none⟩ = some (I J c.back):=blk h.block rfl
theorem CkAt.c10 (h:CkAt O b s c w):w.cell? ⟨b,10,none⟩ = some (I J c.least):=blk h.block rfl
theorem CkAt.c11 (h:CkAt O b s c w):w.cell? ⟨b,11,none⟩ = some s.vv:=blk h.block rfl
theorem CkAt.c12 (h:CkAt O b s c w):w.cell? ⟨b,12,none⟩ = some (.map (some s.mb)):=blk h.block rfl
theorem CkAt.c24 (h:CkAt O b s c w):w.cell? ⟨b,24,none⟩ = some (I J c.pl):=blk h.block rfl
theorem CkAt.c25 (h:CkAt O b s c w):w.cell? ⟨b,25,none⟩ = some (I J c.mat):=blk h.block rfl
theorem CkAt.c26 (h:CkAt O b s c w):w.cell? ⟨b,26,none⟩ = some (I J c.mis):=blk h.block rfl
theorem CkAt.had2 (h:CkAt O b s c w):w.cell? ⟨b,15,none⟩ = some (.bool (c.had 2)):=blk h.block rfl
theorem CkAt.had7 (h:CkAt O b s c w):w.cell? ⟨b,20,none⟩ = some (.bool (c.had 7)):=blk h.block rfl
theorem CkAt.had9 (h:CkAt O b s c w):w.cell? ⟨b,22,none⟩ = some (.bool (c.had 9)):=blk h.block rfl
theorem CkAt.had10 (h:CkAt O b s c w):w.cell? ⟨b,23,none⟩ = some (.bool (c.had 10)):=blk h.block rfl
theorem CkAt.fz (h:CkAt O b s c w) (i:Nat):w.frozen? ⟨b,i,none⟩ = false:=blkf i h.block
end
open Go.Ending renaming returned->Ω
set_option maxRecDepth 20000
set_option maxHeartbeats 1000000
theorem index_calls (l:List Int) (v:Int) (g cap n:Nat) (w:World) (hn:l.length = n) (hl:n <= 400) (hc:∀ j z,l[j]? = some z -> w.cell? ⟨g,j,none⟩ = some (I J z)) :
 Calls Tryz.prog 127 #[.slice (some ⟨g,0,none⟩) n cap,I J v] w fun e w'=>∃ r,e = Ω (I J r) /\ Hid (0 <= r ↔ v ∈ l) /\ w' = w:=by
 have HC:=hid hc
 have HN:Hid (l.length = n):=hn
 clear hc hn
 go_enter Tryz.func127,Tryz.ntmps127
 go_wp2
 go_loop [8] (fun i=>∃ k:Nat,k <= n /\ i = I J k /\ Hid (v ∉ l.take k)) (fun i=>n - (intOf i).toNat)
 case atStart=>exact ⟨0,Nat.zero_le _,rfl,by show v ∉ _; simp⟩
 case round=>
  obtain ⟨k,hk,rfl,HT⟩:=hrel
  by_cases hlt:k < n
  ·obtain ⟨z,hz⟩:∃ z,l[k]? = some z:=⟨l[k]'(by rw [HN.out]; exact hlt),List.getElem?_eq_getElem _⟩
   have hcell:=HC.out k z hz
   have HZ:Hid (l[k]? = some z):=hz
   clear hz
   by_cases hv:v = z
   ·subst hv
    go_wp2
    go_ret
    exact ⟨_,rfl,⟨fun _=>List.mem_of_getElem? HZ.out,fun _=>by omega⟩,rfl⟩
   ·have hq:(v == z) = false:=by rw [beq_eq_false_iff_ne]; exact hv
    have HV:Hid (v ≠ z):=hv
    clear hv
    go_wp2
    go_round
    case rel=>
     refine ⟨k + 1,by omega,by go_num,?_⟩
     show v ∉ _
     rw [List.take_add_one,HZ.out]
     simp only [Option.toList,List.mem_append,List.mem_singleton,not_or]
     exact ⟨HT.out,HV.out⟩
    case measure=>simp [intOf]; omega
  ·have hkn:k = n:=by omega
   go_wp2
   go_ret
   refine ⟨_,rfl,⟨fun h=>by omega,fun h=>?_⟩,rfl⟩
   have:=HT.out
   rw [List.take_of_length_le (by rw [HN.out]; omega)] at this
   exact absurd h this
theorem contains_calls (l:List Int) (v:Int) (g cap n:Nat) (w:World) (hn:l.length = n) (hl:n <= 400) (hc:∀ j z,l[j]? = some z -> w.cell? ⟨g,j,none⟩ = some (I J z)) :
 Calls Tryz.prog 96 #[.slice (some ⟨g,0,none⟩) n cap,I J v] w fun e w'=>e = Ω (.bool (decide (v ∈ l))) /\ w' = w:=by
 have H:=index_calls l v g cap n w hn hl hc
 clear hn hl hc
 go_enter Tryz.func96,Tryz.ntmps96
 go_wp2_with (go_at_call 127; refine H.mono ?_; rintro e w' ⟨r,rfl,HR,rfl⟩)
 go_ret
 exact ⟨by show Ending.returned (.bool (decide (0 <= r))) = _; rw [decide_eq_decide.2 HR.out],rfl⟩
end Go.Proofs.YtlaodgdlkkmmeaaGreat
