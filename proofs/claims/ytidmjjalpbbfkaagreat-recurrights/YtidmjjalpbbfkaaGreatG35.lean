/-
  A recurrence: in plain lists, and in memory. Whether an item says again what may be said but once: twice. What is asked of a recurrence: its letters and scores, its ends, its band.
-/
import Derived.Deep.QuietTactic
import Derived.BigQuiet
import Derived.Test.YtidmjjalpbbfkaaGreatG34
namespace Go.Proofs.YtidmjjalpbbfkaaGreat
open Go.RowKit Go.Deep Go.Maps
set_option maxRecDepth 20000
set_option maxHeartbeats 1000000
abbrev St:=Int × List (Int × Int)
structure Rc where
 letters:Int
 defs:List Df
 subst:List Int
 beg:Int
 fin:Int
 front:Int
 back:Int
 banded:Bool
 lo:Int
 hi:Int
 states:List St
def rcCells (x:Rc) (da:Option Addr) (dn dc:Nat) (sa:Option Addr) (sn sc:Nat) (ta:Option Addr) (tn tc:Nat):Array Value:=
 #[.int .i64 x.letters,.slice da dn dc,.slice sa sn sc,.int .i64 x.beg,.int .i64 x.fin,.int .i64 x.front,.int .i64 x.back,.bool x.banded,.int .i64 x.lo,.int .i64 x.hi,.slice ta tn tc]
/-- States that can be read in a world. -/
structure StsAt (w:World) (ao:Option Addr) (n:Nat) (l:List St):Prop where
 length:l.length = n
 short:n <= maxLen
 cells:0 < n -> ∃ g off,ao = some ⟨g,off,none⟩ /\ ∀ (i:Nat) (s:St),l[i]? = some s -> ∃ ea en ec,w.cell? ⟨g,off + i * 2,none⟩ = some (.int .i64 s.1) /\ w.cell? ⟨g,off + i * 2 + 1,none⟩ = some (.slice ea en ec) /\ PcsAt w ea en s.2
theorem StsAt.below {w w':World} {ao:Option Addr} {n:Nat} {l:List St} (h:StsAt w ao n l) (hb:Below w.heap.size w w'):StsAt w' ao n l:=by
 refine ⟨h.length,h.short,fun h0=>?_⟩
 obtain ⟨g,off,e,hc⟩:=h.cells h0
 refine ⟨g,off,e,fun i q hi=>?_⟩
 obtain ⟨ea,en,ec,h1,h2,h3⟩:=hc i q hi
 exact ⟨ea,en,ec,by rw [hb.cell (World.block_lt_of_cell? w _ h1)]; exact h1,by rw [hb.cell (World.block_lt_of_cell? w _ h2)]; exact h2,h3.below hb⟩
structure RcAt (w:World) (x:Rc) (da:Option Addr) (dn:Nat) (sa:Option Addr) (sn:Nat) (ta:Option Addr) (tn:Nat):Prop where
 defs:DfsAt w da dn x.defs
 subst:IntA w sa sn x.subst
 states:StsAt w ta tn x.states
theorem RcAt.below {w w':World} {x:Rc} {da:Option Addr} {dn:Nat} {sa:Option Addr} {sn:Nat} {ta:Option Addr} {tn:Nat} (h:RcAt w x da dn sa sn ta tn) (hb:Below w.heap.size w w'):RcAt w' x da dn sa sn ta tn:=⟨h.defs.below hb,h.subst.below hb,h.states.below hb⟩
/-- Whether a number lies between two. -/
def inI (n a b:Int):Bool:=decide (a <= n) && decide (n <= b)
theorem inI_iff {n a b:Int}:inI n a b = true ↔ a <= n /\ n <= b:=by simp [inI]
theorem inI_no {n a b:Int}:inI n a b = false ↔ n < a \/ b < n:=by simp [inI]; omega
def placesB (n:Int) (ps:List Int):Bool:=ps.all fun p=>inI p 0 (n - 1)
def edgesB (states defs:Int):Int -> List (Int × Int) -> Bool
 | _,[]=>true
 | least,e :: r=>inI e.1 least (states - 1) && (decide (e.2 = -1) || inI e.2 0 (defs - 1)) && edgesB states defs (e.1 + 1) r
def stateB (states defs:Int) (s:St):Bool:=inI s.1 1 3 && edgesB states defs (-1) s.2
def substR (x:Rc):Bool:=inI x.letters 2 20 && (decide ((x.subst.length:Int) = x.letters * x.letters) && placesB x.defs.length x.subst)
def endsR (x:Rc) (vs:List Int):Bool:=inI x.beg 1 3 && (inI x.fin 1 3 && (placesB vs.length [x.front,x.back] && (decide (0 <= vAt vs x.front) && decide (0 <= vAt vs x.back))))
def bandR (x:Rc):Bool:=if x.banded then decide (x.lo <= x.hi) else decide (x.lo = 0) && decide (x.hi = 0)
def statesR (x:Rc):Bool:=decide (x.states.length <= 9) && x.states.all (stateB x.states.length x.defs.length)
/-- A recurrence that is right. -/
def rightR (x:Rc):Bool:=decide ((valsB x.defs).2 = 0) && (substR x && (endsR x (valsB x.defs).1 && (bandR x && statesR x)))
def foldedR (x:Rc):Bool:=x.defs.all fun d=>decide (d.op = 1)
/-- The box of a recurrence, and what came behind. -/
structure Rb (w:World) (cs:Array Value) (wr:World):Prop where
 low:Below w.heap.size w wr
 box:wr.heap[w.heap.size]? = some (.cells cs 30 (0,0))
theorem Rb.start (w:World) (cs:Array Value):Rb w cs (w.alloc (.cells cs 30)):=⟨(Below.refl _ _).alloc (Nat.le_refl _) _,heap_alloc_new w _⟩
theorem Rb.next {w:World} {cs:Array Value} {wr w2:World} (h:Rb w cs wr) (hb:Below wr.heap.size wr w2):Rb w cs w2:=
 ⟨h.low.trans (hb.mono h.low.size),by rw [hb.block _ (lt_block h.box)]; exact h.box⟩
theorem Rb.alloc {w:World} {cs:Array Value} {wr:World} (h:Rb w cs wr) (o:Obj):Rb w cs (wr.alloc o):=h.next ((Below.refl _ _).alloc (Nat.le_refl _) o)
theorem inI_calls (n a b:Int) (w:World):Calls Tryz.prog 55 #[.int .i64 n,.int .i64 a,.int .i64 b] w fun e w'=>e = .returned (.bool (inI n a b)) /\ w = w':=by
 by_cases h:a <= n
 ·have hd:decide (a <= n) = true:=by simpa using h
  by_cases k:n <= b
  ·have kd:decide (n <= b) = true:=by simpa using k
   go_enter Tryz.func55,Tryz.ntmps55
   go_wp2
   go_ret
   exact ⟨ret_bool (by simp [inI,h,k]),rfl⟩
  ·have kd:decide (n <= b) = false:=by simpa using k
   go_enter Tryz.func55,Tryz.ntmps55
   go_wp2
   go_ret
   exact ⟨ret_bool (by simp [inI,h,k]),rfl⟩
 ·have hd:decide (a <= n) = false:=by simpa using h
  go_enter Tryz.func55,Tryz.ntmps55
  go_wp2
  go_ret
  exact ⟨ret_bool (by simp [inI]; omega),rfl⟩
theorem placesB_bad {n:Int} {ps:List Int} (k:Nat) (p:Int) (hk:ps[k]? = some p) (h:inI p 0 (n - 1) = false):placesB n ps = false:=by
 unfold placesB
 rw [List.all_eq_false]
 exact ⟨p,List.mem_of_getElem? hk,by simp [h]⟩
theorem placesB_all {n:Int} {ps:List Int} (h:∀ (j:Nat) (p:Int),ps[j]? = some p -> inI p 0 (n - 1) = true):placesB n ps = true:=by
 unfold placesB
 rw [List.all_eq_true]
 intro p hp
 obtain ⟨j,hj⟩:=List.getElem?_of_mem hp
 exact h j p hj
theorem places_calls (n:Nat) (ps:List Int) (po:Option Addr) (pn pc:Nat) (w:World) (hn:n <= maxLen) (hp:IntA w po pn ps) :
 Calls Tryz.prog 56 #[.int .i64 (n:Int),.slice po pn pc] w fun e w'=>e = .returned (.bool (placesB n ps)) /\ w = w':=by
 have hpn:=hp.short
 unfold maxLen at hpn hn
 have HP:Hid (IntA w po pn ps):=hp
 clear hp
 go_enter Tryz.func56,Tryz.ntmps56
 go_wp2
 go_loop [6,9] (fun _ i=>∃ k:Nat,k <= pn /\ i = .int .i64 k /\ (∀ (j:Nat) (p:Int),j < k -> ps[j]? = some p -> inI p 0 ((n:Int) - 1) = true)) (fun _ i=>pn - (intOf i).toNat)
 case atStart=>exact ⟨0,Nat.zero_le _,rfl,fun j p hj=>by omega⟩
 case round=>
  obtain ⟨k,hk,rfl,hall⟩:=hrel
  have HA:Hid (∀ (j:Nat) (p:Int),j < k -> ps[j]? = some p -> inI p 0 ((n:Int) - 1) = true):=hall
  clear hall
  by_cases hlt:k < pn
  ·obtain ⟨p,hpk⟩:∃ p,ps[k]? = some p:=⟨ps[k]'(by rw [HP.out.length]; exact hlt),List.getElem?_eq_getElem _⟩
   obtain ⟨g1,o1,rfl,hc1⟩:=HP.out.isI k p hpk
   have HK:Hid (ps[k]? = some p):=hpk
   clear hpk
   go_wp2_with fail
   refine (inI_calls p 0 ((n:Int) - 1) w).mono ?_
   rintro e w' ⟨rfl,rfl⟩
   cases hr:inI p 0 ((n:Int) - 1) with
   | false=>
     have HE:Hid (placesB n ps = false):=placesB_bad k p HK.out hr
     go_wp2
     go_ret
     rw [HE.out]; exact ⟨rfl,rfl⟩
   | true=>
     have HR:Hid (inI p 0 ((n:Int) - 1) = true):=hr
     clear hr
     go_wp2
     go_round
     case rel=>
      refine ⟨k + 1,by omega,by go_num,?_⟩
      intro j p' hj hjp
      by_cases e:j = k
      ·subst e; rw [HK.out] at hjp; cases hjp; exact HR.out
      ·exact HA.out j p' (by omega) hjp
     case measure=>simp [intOf]; omega
  ·have HE:Hid (placesB n ps = true):=placesB_all (fun j p hj=>HA.out j p (by have:=(List.getElem?_eq_some_iff.1 hj).1; rw [HP.out.length] at this; omega) hj)
   go_wp2
   go_ret
   rw [HE.out]; exact ⟨rfl,rfl⟩
end Go.Proofs.YtidmjjalpbbfkaaGreat
namespace Go.Proofs.YtidmjjalpbbfkaaGreat
open Go.RowKit Go.Deep Go.Maps
set_option maxRecDepth 20000
set_option maxHeartbeats 4000000
def itL (i:It) (ka:Option Addr) (kn kc:Nat):List Value:=[.int .i64 i.kind,.string (bs i.name),.slice ka kn kc,.int .i64 i.pl]
def itV (i:It) (ka:Option Addr) (kn kc:Nat):Value:=.agg #[.int .i64 i.kind,.string (bs i.name),.slice ka kn kc,.int .i64 i.pl]
theorem below_put {B g:Nat} {w V:World} (h:Below B w V) (hg:B <= g) (i:Nat) (u:Value):Below B w (V.setCell ⟨g,i,none⟩ u):=h.setCell (show B <= (⟨g,i,none⟩:Addr).block from hg) u
theorem CkAt.hadk {O:Nat -> Prop} {b:Nat} {s:Sl} {c:Ck} {w:World} (h:CkAt O b s c w) {k:Nat} (hk:k <= 10):w.cell? ⟨b,13 + k,none⟩ = some (.bool (c.had k)):=by
 refine blk h.block ?_
 have:k = 0 \/ k = 1 \/ k = 2 \/ k = 3 \/ k = 4 \/ k = 5 \/ k = 6 \/ k = 7 \/ k = 8 \/ k = 9 \/ k = 10:=by omega
 rcases this with rfl | rfl | rfl | rfl | rfl | rfl | rfl | rfl | rfl | rfl | rfl <;> rfl
theorem twice_let {O:Nat -> Prop} {b:Nat} {s:Sl} {c:Ck} (i:It) (ka:Option Addr) (kn kc:Nat) (w:World) (hck:CkAt O b s c w) (hk:i.kind = 1) (hn:i.name.length <= maxLen) :
 Calls Tryz.prog 66 #[.pointer (some ⟨b,0,none⟩),itV i ka kn kc] w fun e w'=>e = .returned (.bool (lookN c.names i.name).isSome) /\ Below w.heap.size w w':=by
 obtain ⟨r,hr⟩:∃ r,r = lookN c.names i.name:=⟨_,rfl⟩
 obtain ⟨m,hm⟩:∃ m,m = r.getD mn0:=⟨_,rfl⟩
 obtain ⟨found,hfo⟩:∃ f,f = r.isSome:=⟨_,rfl⟩
 rw [<- hr,<- hfo]
 have hA:∀ W,Below w.heap.size w W -> W.heap[w.heap.size]? = some (.cells (itL i ka kn kc).toArray 92 (0,0)) -> W.cell? ⟨b,12,none⟩ = some (.map (some s.mb)) /\ W.cell? ⟨w.heap.size,1,none⟩ = some (.string (bs i.name)) /\ (Instr.lookup 95 (.map (some s.mb)) (.string (bs i.name)) true).run Tryz.prog W = .ok (.tuple #[.agg #[.bool m.isText,.string (bs m.text),.int .i64 m.place,.int .i64 m.num],.bool found]) W:=fun W hW hb=>by
  have hc:=hck.below hW
  have:=nm_look hc.names i.name hn
  rw [<- hr,<- hm,<- hfo] at this
  exact ⟨hc.c12,blk hb rfl,this⟩
 obtain ⟨mt,mx,mp,mn⟩:=m
 simp only at hA
 obtain ⟨bx,hbx⟩:∃ bx,bx = bs mx:=⟨_,rfl⟩
 rw [<- hbx] at hA
 obtain ⟨tx,htx⟩:∃ tx,tx = bs i.name:=⟨_,rfl⟩
 rw [<- htx] at hA
 have HSS:Hid (∀ W,Below (w.heap.size + 1) (w.alloc (.cells #[.int .i64 i.kind,.string tx,.slice ka kn kc,.int .i64 i.pl] 92)) W -> W.cell? ⟨b,12,none⟩ = some (.map (some s.mb)) /\ W.cell? ⟨w.heap.size,1,none⟩ = some (.string tx) /\ (Instr.lookup 95 (.map (some s.mb)) (.string tx) true).run Tryz.prog W = .ok (.tuple #[.agg #[.bool mt,.string bx,.int .i64 mp,.int .i64 mn],.bool found]) W):=fun W hW=>by
  refine hA W (((Below.refl w.heap.size w).alloc (Nat.le_refl _) (.cells #[.int .i64 i.kind,.string tx,.slice ka kn kc,.int .i64 i.pl] 92)).trans ⟨hW.os,hW.tape,hW.output,hW.size,fun q hq=>hW.block q (by omega)⟩) ?_
  rw [hW.block _ (by omega),htx]
  exact heap_alloc_new w _
 have hq:(i.kind == 1) = true:=by rw [beq_iff_eq]; exact hk
 unfold itV
 rw [<- htx]
 clear hA hck hn hr hm hfo hbx htx hk
 go_enter Tryz.func66,Tryz.ntmps66
 go_upto_region 3 with (fail)
 have hs0:(w.alloc (.cells #[.int .i64 i.kind,.string tx,.slice ka kn kc,.int .i64 i.pl] 92)).heap.size = w.heap.size + 1:=by simp
 obtain ⟨w1,hw1⟩:∃ w1,w1 = w.alloc (.cells #[.int .i64 i.kind,.string tx,.slice ka kn kc,.int .i64 i.pl] 92):=⟨_,rfl⟩
 rw [<- hw1] at HSS hs0 ⊢
 have HB1:Hid (∀ W,Below (w.heap.size + 1) w1 W -> Below w.heap.size w W):=fun W hW=>by
  rw [hw1] at hW
  exact ((Below.refl w.heap.size w).alloc (Nat.le_refl _) _).trans ⟨hW.os,hW.tape,hW.output,hW.size,fun q hq=>hW.block q (by omega)⟩
 have hb0:Below (w.heap.size + 1) w1 w1.drew:=by rw [<- hs0]; exact (Below.refl _ _).drew
 clear hw1 hq
 ·have HS0:Hid (w1.drew.cell? ⟨b,12,none⟩ = some (.map (some s.mb)) /\ w1.drew.cell? ⟨w.heap.size,1,none⟩ = some (.string tx) /\ (Instr.lookup 95 (.map (some s.mb)) (.string tx) true).run Tryz.prog w1.drew = .ok (.tuple #[.agg #[.bool mt,.string bx,.int .i64 mp,.int .i64 mn],.bool found]) w1.drew):=HSS.out _ hb0
  refine wp_region_Y (fun j=>[].contains j) (fun W=>W.cell? ⟨b,12,none⟩ = some (.map (some s.mb)) /\ W.cell? ⟨w.heap.size,1,none⟩ = some (.string tx) /\ (Instr.lookup 95 (.map (some s.mb)) (.string tx) true).run Tryz.prog W = .ok (.tuple #[.agg #[.bool mt,.string bx,.int .i64 mp,.int .i64 mn],.bool found]) W) (by kernel_rfl) ?_
  refine wpAnyY_takeD (i:=0) 12 (v:=.pointer (some ⟨b,0,none⟩)) rfl rfl (by kernel_rfl) (by kernel_rfl) (late_of (by kernel_rfl)) (by kernel_rfl) (by kernel_rfl) (fun _ _ _ h=>h) HS0.out (Or.inl ⟨by rfl,by (intro W hW; obtain ⟨_,_,_⟩:=hW; go_simp)⟩) ?_
  simp only [Act.put,lA,lB,lC]
  refine wpAnyY_takeD (i:=1) 13 (v:=.pointer (some ⟨b,0,none⟩)) rfl rfl (by kernel_rfl) (by kernel_rfl) (late_of (by kernel_rfl)) (by kernel_rfl) (by kernel_rfl) (fun _ _ _ h=>h) HS0.out (Or.inl ⟨by rfl,by (intro W hW; obtain ⟨_,_,_⟩:=hW; go_simp)⟩) ?_
  simp only [Act.put,lA,lB,lC]
  refine wpAnyY_takeD (i:=2) 14 (v:=.pointer (some ⟨b,12,none⟩)) rfl rfl (by kernel_rfl) (by kernel_rfl) (late_of (by kernel_rfl)) (by kernel_rfl) (by kernel_rfl) (fun _ _ _ h=>h) HS0.out (Or.inl ⟨by rfl,by (intro W hW; obtain ⟨_,_,_⟩:=hW; go_simp)⟩) ?_
  simp only [Act.put,lA,lB,lC]
  refine wpAnyY_takeD (i:=3) 15 (v:=.map (some s.mb)) rfl rfl (by kernel_rfl) (by kernel_rfl) (late_of (by kernel_rfl)) (by kernel_rfl) (by kernel_rfl) (fun _ _ _ h=>h) HS0.out (Or.inl ⟨by rfl,by (intro W hW; obtain ⟨_,_,_⟩:=hW; go_simp)⟩) ?_
  simp only [Act.put,lA,lB,lC]
  refine wpAnyY_takeD (i:=4) 16 (v:=.pointer (some ⟨w.heap.size,1,none⟩)) rfl rfl (by kernel_rfl) (by kernel_rfl) (late_of (by kernel_rfl)) (by kernel_rfl) (by kernel_rfl) (fun _ _ _ h=>h) HS0.out (Or.inl ⟨by rfl,by (intro W hW; obtain ⟨_,_,_⟩:=hW; go_simp)⟩) ?_
  simp only [Act.put,lA,lB,lC]
  refine wpAnyY_takeD (i:=5) 17 (v:=.string tx) rfl rfl (by kernel_rfl) (by kernel_rfl) (late_of (by kernel_rfl)) (by kernel_rfl) (by kernel_rfl) (fun _ _ _ h=>h) HS0.out (Or.inl ⟨by rfl,by (intro W hW; obtain ⟨_,_,_⟩:=hW; go_simp)⟩) ?_
  simp only [Act.put,lA,lB,lC]
  refine wpAnyY_takeD (i:=6) 18 (v:=.tuple #[.agg #[.bool mt,.string bx,.int .i64 mp,.int .i64 mn],.bool found]) rfl rfl (by kernel_rfl) (by kernel_rfl) (late_of (by kernel_rfl)) (by kernel_rfl) (by kernel_rfl) (fun _ _ _ h=>h) HS0.out (Or.inl ⟨by rfl,by (intro W hW; obtain ⟨_,_,_⟩:=hW; go_simp)⟩) ?_
  simp only [Act.put,lA,lB,lC]
  refine wpAnyY_takeD (i:=7) 11 (v:=.tuple #[.agg #[.bool mt,.string bx,.int .i64 mp,.int .i64 mn],.bool found]) rfl rfl (by kernel_rfl) (by kernel_rfl) (late_of (by kernel_rfl)) (by kernel_rfl) (by kernel_rfl) (fun _ _ _ h=>h) HS0.out (Or.inl ⟨by rfl,by (intro W hW; obtain ⟨_,_,_⟩:=hW; go_simp)⟩) ?_
  simp only [Act.put,lA,lB,lC]
  refine wpAnyY_takeD (i:=8) 19 (v:=.agg #[.bool mt,.string bx,.int .i64 mp,.int .i64 mn]) rfl rfl (by kernel_rfl) (by kernel_rfl) (late_of (by kernel_rfl)) (by kernel_rfl) (by kernel_rfl) (fun _ _ _ h=>h) HS0.out (Or.inl ⟨by rfl,by (intro W hW; obtain ⟨_,_,_⟩:=hW; go_simp)⟩) ?_
  simp only [Act.put,lA,lB,lC]
  refine wpAnyY_takeD (i:=9) 20 (v:=.bool found) rfl rfl (by kernel_rfl) (by kernel_rfl) (late_of (by kernel_rfl)) (by kernel_rfl) (by kernel_rfl) (fun _ _ _ h=>h) HS0.out (Or.inl ⟨by rfl,by (intro W hW; obtain ⟨_,_,_⟩:=hW; go_simp)⟩) ?_
  simp only [Act.put,lA,lB,lC]
  refine wpAnyY_one (i:=10) rfl (by kernel_rfl) (fun K hK=>?_)
  refine alloc109_step rfl rfl rfl ?_
  intro V g5 hV hG
  have hbV:Below (w.heap.size + 1) w1 V:=by rw [hV]; exact hb0.alloc (by rw [<- hs0]; exact hb0.size) _
  have hlV:w.heap.size + 1 <= g5:=by rw [hG,<- hs0]; exact hb0.size
  have hhV:V.heap[g5]? = some (.cells (mnL mn0).toArray 135 (0,0)):=by rw [hV,hG]; exact heap_alloc_new _ _
  refine hK.out _ _ (fun _=>HSS.out _ hbV) ?_
  clear hK K HS0 hb0 hV hG
  simp only [Act.put,lA,lB,lC]
  refine wpAnyY_one (i:=11) rfl (by kernel_rfl) (fun K hK=>?_)
  refine store109_step rfl rfl rfl rfl rfl hhV ?_
  intro V2 hV2
  have hbV2:Below (w.heap.size + 1) w1 V2:=by rw [hV2]; exact below_put (below_put (below_put (below_put hbV hlV _ _) hlV _ _) hlV _ _) hlV _ _
  refine hK.out _ _ (fun _=>HSS.out _ hbV2) ?_
  clear hK K hV2 hhV hbV
  have HS0:Hid (V2.cell? ⟨b,12,none⟩ = some (.map (some s.mb)) /\ V2.cell? ⟨w.heap.size,1,none⟩ = some (.string tx) /\ (Instr.lookup 95 (.map (some s.mb)) (.string tx) true).run Tryz.prog V2 = .ok (.tuple #[.agg #[.bool mt,.string bx,.int .i64 mp,.int .i64 mn],.bool found]) V2):=HSS.out _ hbV2
  refine wpAnyY_takeD (i:=12) 6 (v:=.bool found) rfl rfl (by kernel_rfl) (by kernel_rfl) (late_of (by kernel_rfl)) (by kernel_rfl) (by kernel_rfl) (fun _ _ _ h=>h) HS0.out (Or.inl ⟨by rfl,by (intro W hW; obtain ⟨_,_,_⟩:=hW; go_simp)⟩) ?_
  simp only [Act.put,lA,lB,lC]
  refine wpAnyY_done (by kernel_rfl) ?_ _
  go_wp2
  go_ret
  exact ⟨rfl,HB1.out _ hbV2⟩
theorem twice_calls {O:Nat -> Prop} {b:Nat} {s:Sl} {c:Ck} (i:It) (ka:Option Addr) (kn kc:Nat) (w:World) (hck:CkAt O b s c w) (hk1:1 <= i.kind) (hk2:i.kind <= 10) (hn:i.name.length <= maxLen) :
 Calls Tryz.prog 66 #[.pointer (some ⟨b,0,none⟩),itV i ka kn kc] w fun e w'=>e = .returned (.bool (twiceB c i)) /\ Below w.heap.size w w':=by
 by_cases h1:i.kind = 1
 ·unfold twiceB
  rw [if_pos h1]
  exact twice_let i ka kn kc w hck h1 hn
 ·by_cases h56:i.kind = 5 \/ i.kind = 6
  ·unfold twiceB
   rw [if_neg h1,if_pos h56]
   have hq1:(i.kind == 1) = false:=by rw [beq_eq_false_iff_ne]; exact h1
   have HB:Hid (∀ o,Below w.heap.size w (w.alloc o)):=fun o=>(Below.refl _ _).alloc (Nat.le_refl _) o
   unfold itV
   rcases h56 with h5 | h6
   ·have hq5:(i.kind == 5) = true:=by rw [beq_iff_eq]; exact h5
    clear hck hk1 hk2 hn h1 h5
    go_enter Tryz.func66,Tryz.ntmps66
    go_wp2
    go_ret
    exact ⟨rfl,HB.out _⟩
   ·have hq5:(i.kind == 5) = false:=by rw [beq_eq_false_iff_ne]; omega
    have hq6:(i.kind == 6) = true:=by rw [beq_iff_eq]; exact h6
    clear hck hk1 hk2 hn h1 h6
    go_enter Tryz.func66,Tryz.ntmps66
    go_wp2
    go_ret
    exact ⟨rfl,HB.out _⟩
  ·unfold twiceB
   rw [if_neg h1,if_neg h56]
   have hq1:(i.kind == 1) = false:=by rw [beq_eq_false_iff_ne]; exact h1
   have hq5:(i.kind == 5) = false:=by rw [beq_eq_false_iff_ne]; exact fun h=>h56 (.inl h)
   have hq6:(i.kind == 6) = false:=by rw [beq_eq_false_iff_ne]; exact fun h=>h56 (.inr h)
   obtain ⟨k,hkk⟩:∃ k:Nat,i.kind = (k:Int):=⟨i.kind.toNat,by omega⟩
   have hcell:w.cell? ⟨b,13 + k,none⟩ = some (.bool (c.had i.kind.toNat)):=by rw [hkk]; exact hck.hadk (by omega)
   have hlt:b < w.heap.size:=hck.lt
   have HB:Hid (∀ o n,Below w.heap.size w ((w.alloc o).drewN n)):=fun o n=>below_dn ((Below.refl _ _).alloc (Nat.le_refl _) o) n
   obtain ⟨hd,hhd⟩:∃ hd,hd = c.had i.kind.toNat:=⟨_,rfl⟩
   rw [<- hhd] at hcell ⊢
   clear hhd
   unfold itV
   have hk0:(0:Int) <= (k:Int):=by omega
   have hk11:(k:Int) < 11:=by omega
   have hk11':k < 11:=by omega
   rw [hkk] at hq1 hq5 hq6
   rw [hkk]
   clear hck hn h1 h56 hkk hk1 hk2
   go_enter Tryz.func66,Tryz.ntmps66
   go_upto_region 8 with (fail)
   go_quiet (fail)
   go_wp2
   go_ret
   exact ⟨rfl,HB.out _ _⟩
end Go.Proofs.YtidmjjalpbbfkaaGreat
namespace Go.Proofs.YtidmjjalpbbfkaaGreat
open Go.RowKit Go.Deep Go.Maps
set_option maxRecDepth 20000
set_option maxHeartbeats 1000000
theorem rightBand_calls (x:Rc) (da:Option Addr) (dn dc:Nat) (sa:Option Addr) (sn sc:Nat) (ta:Option Addr) (tn tc:Nat) (w:World) :
 Calls Tryz.prog 31 #[.agg (rcCells x da dn dc sa sn sc ta tn tc)] w fun e w'=>e = .returned (.bool (bandR x)) /\ Below w.heap.size w w':=by
 have HB:Hid (Below w.heap.size w (w.alloc (.cells (rcCells x da dn dc sa sn sc ta tn tc) 30))):=(Rb.start w _).low
 have HN:Hid (bandR x = if x.banded then decide (x.lo <= x.hi) else decide (x.lo = 0) && decide (x.hi = 0)):=rfl
 obtain ⟨letters,defs,subst,beg,fin,front,back,banded,lo,hi,states⟩:=x
 unfold rcCells at HB ⊢
 simp only at HN HB ⊢
 cases banded with
 | true=>
   go_enter Tryz.func31,Tryz.ntmps31
   go_wp2
   go_ret
   exact ⟨ret_bool (by rw [HN.out]; rfl),HB.out⟩
 | false=>
   by_cases h:lo = 0
   ·subst h
    have h0:((0:Int) == 0) = true:=rfl
    go_enter Tryz.func31,Tryz.ntmps31
    go_wp2
    go_ret
    refine ⟨ret_bool ?_,HB.out⟩
    rw [HN.out]
    simp [beqz]
   ·have h0:(lo == 0) = false:=by simpa using h
    go_enter Tryz.func31,Tryz.ntmps31
    go_wp2
    go_ret
    refine ⟨ret_bool ?_,HB.out⟩
    rw [HN.out]
    simp [h]
theorem rightSubst_calls (x:Rc) (da:Option Addr) (dn dc:Nat) (sa:Option Addr) (sn sc:Nat) (ta:Option Addr) (tn tc:Nat) (w:World) (h:RcAt w x da dn sa sn ta tn) :
 Calls Tryz.prog 29 #[.agg (rcCells x da dn dc sa sn sc ta tn tc)] w fun e w'=>e = .returned (.bool (substR x)) /\ Below w.heap.size w w':=by
 have hdn:=h.defs.short
 have hsn:=h.subst.short
 have e1:=h.defs.length
 have e2:=h.subst.length
 have HB:Hid (Below w.heap.size w (w.alloc (.cells (rcCells x da dn dc sa sn sc ta tn tc) 30))):=(Rb.start w _).low
 have HS:Hid (IntA (w.alloc (.cells (rcCells x da dn dc sa sn sc ta tn tc) 30)) sa sn x.subst /\ dn <= maxLen):=⟨h.subst.below HB.out,hdn⟩
 have HN:Hid (substR x = (inI x.letters 2 20 && (decide ((sn:Int) = x.letters * x.letters) && placesB dn x.subst))):=by show substR x = _; unfold substR; rw [e1,e2]
 unfold maxLen at hdn hsn
 clear h e1 e2
 obtain ⟨L,defs,subst,beg,fin,front,back,banded,lo,hi,states⟩:=x
 unfold rcCells at HB HS ⊢
 simp only at HN HB HS ⊢
 go_enter Tryz.func29,Tryz.ntmps29
 go_wp2_with fail
 refine (inI_calls L 2 20 _).mono ?_
 rintro e w1 ⟨rfl,rfl⟩
 cases hr:inI L 2 20 with
 | false=>
   have HE:Hid (substR ⟨L,defs,subst,beg,fin,front,back,banded,lo,hi,states⟩ = false):=by rw [HN.out,hr]; rfl
   clear hr HN
   go_wp2
   go_ret
   exact ⟨ret_bool HE.out.symm,HB.out⟩
 | true=>
   have hL:=inI_iff.1 hr
   obtain ⟨l1,l2⟩:=hL
   obtain ⟨n,rfl⟩:=Int.eq_ofNat_of_zero_le (show 0 <= L by omega)
   have hn20:n <= 20:=by omega
   have hsq:n * n <= 400:=by have:=Nat.mul_le_mul hn20 hn20; omega
   have hsqi:(n:Int) * (n:Int) = ((n * n:Nat):Int):=by simp
   have hm1:0 <= (n:Int) * (n:Int):=by rw [hsqi]; omega
   have hm2:(n:Int) * (n:Int) <= 400:=by rw [hsqi]; omega
   rw [hr] at HN
   clear hr hsq hsqi hn20
   by_cases g:(sn:Int) = (n:Int) * (n:Int)
   ·have k:((sn:Int) == (n:Int) * (n:Int)) = true:=by simpa using g
    rw [decide_eq_true g] at HN
    clear g
    go_wp2_with fail
    refine (places_calls dn subst sa sn sc _ HS.out.2 HS.out.1).mono ?_
    rintro e w2 ⟨rfl,rfl⟩
    go_wp2
    go_ret
    exact ⟨ret_bool (by rw [HN.out]; rfl),HB.out⟩
   ·have k:((sn:Int) == (n:Int) * (n:Int)) = false:=by simpa using g
    rw [decide_eq_false g] at HN
    clear g
    go_wp2
    go_ret
    exact ⟨ret_bool (by rw [HN.out]; rfl),HB.out⟩
theorem rightEnds_calls (x:Rc) (da:Option Addr) (dn dc:Nat) (sa:Option Addr) (sn sc:Nat) (ta:Option Addr) (tn tc:Nat) (vs:List Int) (vo:Option Addr) (vn vc:Nat) (w:World) (hv:IntA w vo vn vs) :
 Calls Tryz.prog 30 #[.agg (rcCells x da dn dc sa sn sc ta tn tc),.slice vo vn vc] w fun e w'=>e = .returned (.bool (endsR x vs)) /\ Below w.heap.size w w':=by
 have hvn:=hv.short
 have e1:=hv.length
 have HB:Hid (Below w.heap.size w (w.alloc (.cells (rcCells x da dn dc sa sn sc ta tn tc) 30))):=(Rb.start w _).low
 have HS:Hid (∀ W,Below w.heap.size w W -> IntA W vo vn vs):=fun W hW=>hv.below hW
 have HM:Hid (vn <= maxLen):=hvn
 have HN:Hid (endsR x vs = (inI x.beg 1 3 && (inI x.fin 1 3 && (placesB vn [x.front,x.back] && (decide (0 <= vAt vs x.front) && decide (0 <= vAt vs x.back)))))):=by show endsR x vs = _; unfold endsR; rw [e1]
 have HL:Hid (vs.length = vn):=e1
 unfold maxLen at hvn
 clear hv e1
 obtain ⟨L,defs,subst,beg,fin,front,back,banded,lo,hi,states⟩:=x
 unfold rcCells at HB ⊢
 simp only at HN HB ⊢
 obtain ⟨R,hR⟩:∃ R,endsR ⟨L,defs,subst,beg,fin,front,back,banded,lo,hi,states⟩ vs = R:=⟨_,rfl⟩
 rw [hR] at HN ⊢
 clear hR
 go_enter Tryz.func30,Tryz.ntmps30
 go_wp2_with fail
 refine (inI_calls beg 1 3 _).mono ?_
 rintro e w1 ⟨rfl,rfl⟩
 cases hr1:inI beg 1 3 with
 | false=>
   rw [hr1] at HN
   go_wp2
   go_ret
   exact ⟨ret_bool (by rw [HN.out]; rfl),HB.out⟩
 | true=>
   rw [hr1] at HN
   clear hr1
   go_wp2_with fail
   refine (inI_calls fin 1 3 _).mono ?_
   rintro e w1 ⟨rfl,rfl⟩
   cases hr2:inI fin 1 3 with
   | false=>
     rw [hr2] at HN
     go_wp2
     go_ret
     exact ⟨ret_bool (by rw [HN.out]; rfl),HB.out⟩
   | true=>
     rw [hr2] at HN
     clear hr2
     have HB2:Hid (Below w.heap.size w ((w.alloc (.cells #[.int .i64 L,.slice da dn dc,.slice sa sn sc,.int .i64 beg,.int .i64 fin,.int .i64 front,.int .i64 back,.bool banded,.int .i64 lo,.int .i64 hi,.slice ta tn tc] 30)).alloc (.cells #[.int .i64 front,.int .i64 back] 3))):=HB.out.alloc (by simp) _
     go_wp2_with fail
     refine (places_calls vn [front,back] _ 2 2 _ HM.out (two_intA _ front back _ (by simp))).mono ?_
     rintro e w1 ⟨rfl,rfl⟩
     cases hr3:placesB vn [front,back] with
     | false=>
       rw [hr3] at HN
       go_wp2
       go_ret
       exact ⟨ret_bool (by rw [HN.out]; rfl),HB2.out⟩
     | true=>
       rw [hr3] at HN
       have hp:(0 <= front /\ front < vn) /\ (0 <= back /\ back < vn):=by
        have h1:=hr3
        simp only [placesB,List.all_cons,List.all_nil,Bool.and_true,Bool.and_eq_true,inI_iff] at h1
        omega
       obtain ⟨⟨f0,f1⟩,b0,b1⟩:=hp
       obtain ⟨qf,rfl⟩:=Int.eq_ofNat_of_zero_le f0
       obtain ⟨qb,rfl⟩:=Int.eq_ofNat_of_zero_le b0
       have hqf:qf < vn:=by omega
       have hqb:qb < vn:=by omega
       have hvf:=vAt_get (vs:=vs) (i:=qf) (by rw [HL.out]; exact hqf)
       have hvb:=vAt_get (vs:=vs) (i:=qb) (by rw [HL.out]; exact hqb)
       have hI:=(HS.out _ HB2.out).isI
       obtain ⟨g2,o2,rfl,cf⟩:=hI qf _ hvf
       obtain ⟨g3,o3,e3,cb⟩:=hI qb _ hvb
       cases e3
       clear hr3 hI hvf hvb f0 f1 b0 b1
       generalize vAt vs (qf:Int) = zf at *
       generalize vAt vs (qb:Int) = zb at *
       by_cases hz:0 <= zf
       ·have k:decide (0 <= zf) = true:=by simpa using hz
        rw [k] at HN
        go_wp2
        go_ret
        exact ⟨ret_bool (by rw [HN.out]; rfl),HB2.out⟩
       ·have k:decide (0 <= zf) = false:=by simpa using hz
        rw [k] at HN
        go_wp2
        go_ret
        exact ⟨ret_bool (by rw [HN.out]; rfl),HB2.out⟩
end Go.Proofs.YtidmjjalpbbfkaaGreat
