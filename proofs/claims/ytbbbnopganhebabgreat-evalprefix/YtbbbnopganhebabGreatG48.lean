/-
  What Lower is put together of: ends, openings, numbers in a row, edges; lists grown, cloned and put behind one another. Lists grown, put behind one another, cloned. The states of a scheme's recurrence.
-/
import Derived.Laws.AppendOwnNone
import Derived.Deep.Slices
import Derived.Lib.AppendZerosOnto
import Derived.Lib.SliceRun
import Derived.Lib.Walk
import Derived.Deep.DeepCutAuto
import Derived.Deep.RegionHeld3
import Derived.Test.YtbbbnopganhebabGreatG30
import Derived.Test.YtbbbnopganhebabGreatVmF
namespace Go.Proofs.YtbbbnopganhebabGreat
open Go.RowKit Go.Deep Go.Maps
open Go.Value renaming int->I
open Go.IntKind renaming i64->J
set_option maxRecDepth 20000
set_option maxHeartbeats 1000000
theorem run_append_nothing' {P:Program} {w:World} (base:Nat) (t ty e:TypeId) (i:TypeInfo) (size:Nat) (ht:P.underlying t = some (.slice e)) (hi:P.info? e = some i)
 (v:Value) (n:Nat) (xs:List Value) (hown:w.ownsRow base e size v n xs) (c:Nat):(Builtin.append_ #[t,t] ty #[v,.slice none 0 c]).run P w = .ok v w:=by
 rcases hown.2 with ⟨hv,h0⟩ | ⟨g,cap,cur,hv,_,_,hc,_⟩
 ·subst hv
  simp [Builtin.append_,run_underlying ht,sizeOf,typeInfo,hi,Builtin.lenOf,run_firstCells_none]
 ·subst hv
  simp [Builtin.append_,run_underlying ht,sizeOf,typeInfo,hi,Builtin.lenOf,run_firstCells_none,hc,storeCells]
/-- What may be appended: some cells, or nothing. -/
def SrcAt (w:World) (ao:Option Addr) (m size:Nat) (news:List Value):Prop:=news.length = m * size /\ (∀ u ∈ news,u.oneCell' = true) /\ ((ao = none /\ m = 0) \/ ∃ ad,ao = some ad /\ ∀ j u,news[j]? = some u -> w.cell? (ad.add j) = some u)
theorem wpList_append_opt {P:Program} {w:World} {ops:Array Oper} {rest:List Oper} {o:Oper} {a:Act} {Q:Exit -> Act -> World -> Prop} (hgd:o.guard = none) (s x:Operand) (t:TypeId)
 (ho:o.op = .call { callee:=.builtin .append,args:=#[s,x],argTypes:=#[t,t] })
 (base:Nat) (e:TypeId) (i:TypeInfo) (z:Value) (size bytes:Nat) (ht:P.underlying t = some (.slice e)) (hi:P.info? e = some i) (hz:i.zero = some z)
 (hsize:i.size = size) (hby:i.bytes = bytes) (hzs:z.cells.size = size) (hsz:0 < size)
 (v:Value) (n:Nat) (xs:List Value) (hs:a.eval s = v) (hown:w.ownsRow base e size v n xs)
 (ao:Option Addr) (m c:Nat) (news:List Value) (hx:a.eval x = .slice ao m c) (hsrc:SrcAt w ao m size news)
 (h63:n + m <= maxLen) (hbytes:(n + m) * bytes <= 140737488355328) (hbase:base <= w.heap.size)
 (h:∀ v' w',w'.ownsRow base e size v' (n + m) (xs ++ news) -> w.grownBy w' v.ownBlock -> wpList P ops Q rest (a.put o.dst v') w'):wpList P ops Q (o :: rest) a w:=by
 obtain ⟨hl,h1,⟨hao,hm⟩ | ⟨ad,hao,hc⟩⟩:=hsrc
 ·subst hao hm
  have hn:news = []:=List.eq_nil_of_length_eq_zero (by rw [hl]; simp)
  subst hn
  refine wpList_plain hgd fun K hK=>?_
  have hrun:=run_append_nothing' (P:=P) (w:=w) base t o.type e i size ht hi v n xs hown c
  unfold Oper.wp
  simp [execOp,ho,resolve,invoke,builtin,hs,hx,hrun,Result.andThen]
  exact hK _ _ (h v w (by rw [List.append_nil,Nat.add_zero]; exact hown) ⟨rfl,rfl,rfl,Nat.le_refl _,fun _ _ _=>rfl⟩)
 ·subst hao
  exact wpList_append_own w hgd s x t ho base e i z size bytes ht hi hz hsize hby hzs hsz v n xs hs hown ad m c news hx hl hc h1 h63 hbytes hbase fun v' w' a1 a2 _=>h v' w' a1 a2
theorem empty_row (W:World) (e:TypeId) (size base:Nat) (hb:base <= W.heap.size) (g:Nat) (hg:g = W.heap.size):(W.alloc (.cells #[] e)).ownsRow base e size (.slice (some ⟨g,0,none⟩) 0 0) 0 []:=by
 subst hg
 refine ⟨by simp,.inr ⟨W.heap.size,0,#[],rfl,hb,heap_alloc_new W _,?_⟩⟩
 simp [maxLen]
theorem info54:(Tryz.prog.info? 44).map (fun i=>(i.zero,i.size,i.bytes)) = some (some (.agg #[I J 0,I J 0]),2,16):=by kernel_rfl
theorem info52:(Tryz.prog.info? 42).map (fun i=>(i.zero,i.size,i.bytes)) = some (some (.agg #[I J 0,.slice none 0 0]),2,32):=by kernel_rfl
theorem e_new (W:World) (a b:Int):∀ (i:Nat) (u:Value),(pcCells (a,b))[i]? = some u -> (W.alloc (.cells #[I J a,I J b] 44)).cell? ((⟨W.heap.size,0,none⟩:Addr).add i) = some u:=cells_new W (pcCells (a,b)) 44
def endsM (mode:Int):Int × Int:=if mode = 2 then (2,2) else if mode = 3 then (3,3) else if mode = 4 then (1,3) else (1,1)
theorem ends_calls (mode:Int) (w:World):Calls Tryz.prog 31 #[I J mode] w fun e w'=>e = .returned (.tuple #[I J (endsM mode).1,I J (endsM mode).2]) /\ w = w':=by
 by_cases h2:mode = 2
 ·subst h2
  go_enter Tryz.func31,Tryz.ntmps31
  go_wp2
  go_ret2
  exact ⟨rfl,rfl⟩
 have k2:(mode == 2) = false:=by simpa using h2
 by_cases h3:mode = 3
 ·subst h3
  go_enter Tryz.func31,Tryz.ntmps31
  go_wp2
  go_ret2
  exact ⟨rfl,rfl⟩
 have k3:(mode == 3) = false:=by simpa using h3
 by_cases h4:mode = 4
 ·subst h4
  go_enter Tryz.func31,Tryz.ntmps31
  go_wp2
  go_ret2
  exact ⟨rfl,rfl⟩
 have k4:(mode == 4) = false:=by simpa using h4
 have HE:Hid (endsM mode = (1,1)):=by show endsM mode = _; unfold endsM; rw [if_neg h2,if_neg h3,if_neg h4]
 rw [HE.out]
 go_enter Tryz.func31,Tryz.ntmps31
 go_wp2
 go_ret2
 exact ⟨rfl,rfl⟩
/-- A row that a call made. -/
def RowPost (e:TypeId) (size n:Nat) (xs:List Value) (w:World) (r:Ending) (w':World):Prop:=∃ ao cap,r = .returned (.slice ao n cap) /\ w'.ownsRow w.heap.size e size (.slice ao n cap) n xs /\ Below w.heap.size w w'
def openD (p:Int × Int):Df:=⟨3,0,p.1,p.2⟩
def openL (l:List (Int × Int)):List Df:=l.map openD
theorem take_snoc {α β:Type} {l:List α} {k:Nat} {d:α} (f:α -> β) (h:l[k]? = some d):(l.take (k + 1)).map f = (l.take k).map f ++ [f d]:=by
 obtain ⟨h1,h2⟩:=List.getElem?_eq_some_iff.1 h
 rw [List.take_succ_eq_append_getElem h1,h2]
 simp
theorem openings_calls (l:List (Int × Int)) (pa:Option Addr) (n pc:Nat) (w:World) (h:PcsAt w pa n l) (hs:n <= 4) :
 Calls Tryz.prog 33 #[.slice pa n pc] w fun e w'=>RowPost 53 4 n (dfRow (openL l)) w e w':=by
 have HP:Hid (PcsAt w pa n l):=h
 clear h
 obtain ⟨i0,hi,hz0,hz1,hz2⟩:=info_parts info43
 go_enter Tryz.func33,Tryz.ntmps33
 go_wp2_with fail
 go_loopg [3,8] n (fun k sv iv wr=>∃ (ao:Option Addr) (c i:Nat),iv = I J (i:Int) /\ sv = .slice ao i c /\ i + k = n /\ Hid (wr.ownsRow w.heap.size 53 4 (.slice ao i c) i (dfRow (openL (l.take i))) /\ Below w.heap.size w wr))
 case atStart=>exact ⟨none,0,0,rfl,rfl,by omega,none_row _ _ _ _,Below.refl _ _⟩
 case round=>
  obtain ⟨ao,c,i,rfl,rfl,hik,HT⟩:=hrel
  by_cases hin:i < n
  ·obtain ⟨d,hdi⟩:∃ d,l[i]? = some d:=⟨l[i]'(by rw [HP.out.length]; exact hin),List.getElem?_eq_getElem _⟩
   obtain ⟨g,off,rfl,hcs⟩:=(HP.out.below HT.out.2).cells (by omega)
   obtain ⟨b0,b1⟩:=hcs i d hdi
   have HD:Hid (openL (l.take (i + 1)) = openL (l.take i) ++ [openD d]):=take_snoc openD hdi
   clear hcs hdi
   obtain ⟨x,y⟩:=d
   simp only at b0 b1
   have HT4:Hid (((wr.alloc (.cells #[I J x,I J y] 150)).alloc (.cells #[I J 3,I J 0,I J x,I J y] 53)).ownsRow w.heap.size 53 4 (.slice ao i c) i (dfRow (openL (l.take i))) /\ Below w.heap.size w ((wr.alloc (.cells #[I J x,I J y] 150)).alloc (.cells #[I J 3,I J 0,I J x,I J y] 53))):=by
    have hb:Below wr.heap.size wr ((wr.alloc (.cells #[I J x,I J y] 150)).alloc (.cells #[I J 3,I J 0,I J x,I J y] 53)):=((Below.refl _ _).alloc (Nat.le_refl _) _).alloc (by simp) _
    exact ⟨owned_below HT.out.1 hb,HT.out.2.trans (hb.mono HT.out.2.size)⟩
   clear HT
   go_wp2_with (at_builtin; refine wpList_append_own _ rfl _ _ 22 rfl w.heap.size 53 i0 _ 4 32 Tryz.underlying22 hi hz0 hz1 hz2 rfl (by decide) (.slice ao i c) i (dfRow (openL (l.take i))) rfl HT4.out.1 ⟨wr.heap.size + 1,0,none⟩ 1 1 (dfCells ⟨3,0,x,y⟩) rfl rfl (by have h:=df_new (wr.alloc (.cells #[I J x,I J y] 150)) 3 0 x y; rw [show (wr.alloc (.cells #[I J x,I J y] 150)).heap.size = wr.heap.size + 1 by simp] at h; exact h) (df_one _) (by unfold maxLen; omega) (by omega) HT4.out.2.size ?_)
   intro v' w5 ho hg _
   obtain ⟨ao5,c5,rfl⟩:=owned_shape ho
   have HN:Hid (w5.ownsRow w.heap.size 53 4 (.slice ao5 (i + 1) c5) (i + 1) (dfRow (openL (l.take (i + 1)))) /\ Below w.heap.size w w5):=by
    refine ⟨by rw [HD.out,dfRow_snoc]; exact ho,HT4.out.2.grown hg HT4.out.2.size (owned_from HT4.out.1)⟩
   clear ho hg HT4
   go_wp2_with fail
   go_roundg (gk - 1)
   case measure=>omega
   case rel=>exact ⟨ao5,c5,i + 1,by go_num,rfl,by omega,HN.out⟩
  ·have hin2:i = n:=by omega
   subst hin2
   have HY:Hid (wr.ownsRow w.heap.size 53 4 (.slice ao i c) i (dfRow (openL l)) /\ Below w.heap.size w wr):=by
    have:=HT.out
    rw [List.take_of_length_le (by rw [HP.out.length]; omega)] at this
    exact this
   clear HT
   go_wp2
   go_ret
   exact ⟨ao,c,rfl,HY.out⟩
/-- The numbers from one on, so many. -/
def upB (z:Int) (k:Nat):List Int:=(List.range k).map fun (i:Nat)=>z + (i:Int)
theorem upB_snoc (z:Int) (k:Nat):upB z (k + 1) = upB z k ++ [z + (k:Int)]:=by simp [upB,List.range_succ]
theorem upB_len (z:Int) (k:Nat):(upB z k).length = k:=by simp [upB]
theorem upTo_calls (z t:Int) (k:Nat) (w:World) (ht:t = z + (k:Int)) (hz:-10 <= z /\ z <= 100) (hk:k <= 100) :
 Calls Tryz.prog 64 #[I J z,I J t] w fun e w'=>RowPost 3 1 k (itRow (upB z k)) w e w':=by
 have hsub:t - z = (k:Int):=by omega
 obtain ⟨hz1',hz2'⟩:=hz
 obtain ⟨i0,hi,hz0,hz1,hz2⟩:=info_parts info3
 go_enter Tryz.func64,Tryz.ntmps64
 go_wp2_with (at_make; refine wpList_make_own _ rfl _ _ 23 rfl w.heap.size 3 i0 _ 1 Tryz.underlying23 hi hz0 hz1 .i64 .i64 _ k rfl rfl (by first | omega | (unfold wrap64; omega)) (by rw [hz2]; omega) (by unfold maxLen; omega) (Nat.le_refl _) ?_; intro w2 hr hg)
 have HO:Hid (w2.ownsRow w.heap.size 3 1 (.slice (some ⟨w.heap.size,0,none⟩) 0 k) 0 [] /\ Below w.heap.size w w2):=⟨hr,(Below.refl _ _).grown hg (Nat.le_refl _) (by intro k hk; cases hk)⟩
 clear hr hg
 go_wp2_with fail
 go_loopg [5,6] k (fun m sv iv wr=>∃ (ao:Option Addr) (c i:Nat),iv = I J (z + (i:Int)) /\ sv = .slice ao i c /\ i + m = k /\ Hid (wr.ownsRow w.heap.size 3 1 (.slice ao i c) i (itRow (upB z i)) /\ Below w.heap.size w wr))
 case atStart=>exact ⟨_,k,0,by simp,rfl,by omega,HO.out⟩
 case round=>
  clear HO
  obtain ⟨ao,c,i,rfl,rfl,hik,HT⟩:=hrel
  by_cases hin:i < k
  ·have hd:decide (z + (i:Int) < t) = true:=by simp; omega
   have HT4:Hid ((wr.alloc (.cells #[I J (z + (i:Int))] 3)).ownsRow w.heap.size 3 1 (.slice ao i c) i (itRow (upB z i)) /\ Below w.heap.size w (wr.alloc (.cells #[I J (z + (i:Int))] 3))):=by
    have hb:Below wr.heap.size wr (wr.alloc (.cells #[I J (z + (i:Int))] 3)):=(Below.refl _ _).alloc (Nat.le_refl _) _
    exact ⟨owned_below HT.out.1 hb,HT.out.2.trans (hb.mono HT.out.2.size)⟩
   clear HT
   go_wp2_with (at_builtin; refine wpList_append_own _ rfl _ _ 23 rfl w.heap.size 3 i0 _ 1 8 Tryz.underlying23 hi hz0 hz1 hz2 rfl (by decide) (.slice ao i c) i (itRow (upB z i)) rfl HT4.out.1 ⟨wr.heap.size,0,none⟩ 1 1 [I J (z + (i:Int))] rfl rfl (it_new wr _) (it_one _) (by unfold maxLen; omega) (by omega) HT4.out.2.size ?_)
   intro v' w5 ho hg _
   obtain ⟨ao5,c5,rfl⟩:=owned_shape ho
   have HN:Hid (w5.ownsRow w.heap.size 3 1 (.slice ao5 (i + 1) c5) (i + 1) (itRow (upB z (i + 1))) /\ Below w.heap.size w w5):=by
    refine ⟨by rw [upB_snoc,itRow_snoc]; exact ho,HT4.out.2.grown hg HT4.out.2.size (owned_from HT4.out.1)⟩
   clear ho hg HT4
   go_wp2_with fail
   go_roundg (gk - 1)
   case measure=>omega
   case rel=>exact ⟨ao5,c5,i + 1,by go_num,rfl,by omega,HN.out⟩
  ·have hin2:i = k:=by omega
   subst hin2
   have hd:decide (z + (i:Int) < t) = false:=by simp; omega
   have HY:Hid (wr.ownsRow w.heap.size 3 1 (.slice ao i c) i (itRow (upB z i)) /\ Below w.heap.size w wr):=HT.out
   clear HT
   go_wp2
   go_ret
   exact ⟨ao,c,rfl,HY.out⟩
def edgesE (cost:Int) (l:List Int):List (Int × Int):=l.map fun s=>(s,cost)
theorem edges_calls (cost:Int) (l:List Int) (pa:Option Addr) (n pc:Nat) (w:World) (h:IntA w pa n l) (hs:n <= 100) :
 Calls Tryz.prog 65 #[I J cost,.slice pa n pc] w fun e w'=>RowPost 44 2 n (pcRow (edgesE cost l)) w e w':=by
 have HP:Hid (IntA w pa n l):=h
 clear h
 obtain ⟨i0,hi,hz0,hz1,hz2⟩:=info_parts info54
 go_enter Tryz.func65,Tryz.ntmps65
 go_wp2_with (at_make; refine wpList_make_own _ rfl _ _ 40 rfl w.heap.size 44 i0 _ 2 Tryz.underlying40 hi hz0 hz1 .i64 .i64 _ n rfl rfl rfl (by rw [hz2]; omega) (by unfold maxLen; omega) (Nat.le_refl _) ?_; intro w2 hr hg)
 have HO:Hid (w2.ownsRow w.heap.size 44 2 (.slice (some ⟨w.heap.size,0,none⟩) 0 n) 0 [] /\ Below w.heap.size w w2):=⟨hr,(Below.refl _ _).grown hg (Nat.le_refl _) (by intro k hk; cases hk)⟩
 clear hr hg
 go_wp2_with fail
 go_loopg [5,13] n (fun k sv iv wr=>∃ (ao:Option Addr) (c i:Nat),iv = I J (i:Int) /\ sv = .slice ao i c /\ i + k = n /\ Hid (wr.ownsRow w.heap.size 44 2 (.slice ao i c) i (pcRow (edgesE cost (l.take i))) /\ Below w.heap.size w wr))
 case atStart=>exact ⟨_,n,0,rfl,rfl,by omega,HO.out⟩
 case round=>
  clear HO
  obtain ⟨ao,c,i,rfl,rfl,hik,HT⟩:=hrel
  by_cases hin:i < n
  ·obtain ⟨d,hdi⟩:∃ d,l[i]? = some d:=⟨l[i]'(by rw [HP.out.length]; exact hin),List.getElem?_eq_getElem _⟩
   obtain ⟨g,off,rfl,hc⟩:=(HP.out.below HT.out.2).isI i d hdi
   have HD:Hid (edgesE cost (l.take (i + 1)) = edgesE cost (l.take i) ++ [(d,cost)]):=take_snoc (fun s=>(s,cost)) hdi
   clear hdi
   have HT4:Hid ((wr.alloc (.cells #[I J d,I J cost] 44)).ownsRow w.heap.size 44 2 (.slice ao i c) i (pcRow (edgesE cost (l.take i))) /\ Below w.heap.size w (wr.alloc (.cells #[I J d,I J cost] 44))):=by
    have hb:Below wr.heap.size wr (wr.alloc (.cells #[I J d,I J cost] 44)):=(Below.refl _ _).alloc (Nat.le_refl _) _
    exact ⟨owned_below HT.out.1 hb,HT.out.2.trans (hb.mono HT.out.2.size)⟩
   clear HT
   go_wp2_with (at_builtin; refine wpList_append_own _ rfl _ _ 40 rfl w.heap.size 44 i0 _ 2 16 Tryz.underlying40 hi hz0 hz1 hz2 rfl (by decide) (.slice ao i c) i (pcRow (edgesE cost (l.take i))) rfl HT4.out.1 ⟨wr.heap.size,0,none⟩ 1 1 (pcCells (d,cost)) rfl rfl (e_new wr _ _) (pc_one _) (by unfold maxLen; omega) (by omega) HT4.out.2.size ?_)
   intro v' w5 ho hg _
   obtain ⟨ao5,c5,rfl⟩:=owned_shape ho
   have HN:Hid (w5.ownsRow w.heap.size 44 2 (.slice ao5 (i + 1) c5) (i + 1) (pcRow (edgesE cost (l.take (i + 1)))) /\ Below w.heap.size w w5):=by
    refine ⟨by rw [HD.out,pcRow_snoc]; exact ho,HT4.out.2.grown hg HT4.out.2.size (owned_from HT4.out.1)⟩
   clear ho hg HT4
   go_wp2_with fail
   go_roundg (gk - 1)
   case measure=>omega
   case rel=>exact ⟨ao5,c5,i + 1,by go_num,rfl,by omega,HN.out⟩
  ·have hin2:i = n:=by omega
   subst hin2
   have HY:Hid (wr.ownsRow w.heap.size 44 2 (.slice ao i c) i (pcRow (edgesE cost l)) /\ Below w.heap.size w wr):=by
    have:=HT.out
    rw [List.take_of_length_le (by rw [HP.out.length]; omega)] at this
    exact this
   clear HT
   go_wp2
   go_ret
   exact ⟨ao,c,rfl,HY.out⟩
theorem src_ints {w:World} {ao:Option Addr} {n:Nat} {l:List Int} (h:IntA w ao n l):SrcAt w ao n 1 (itRow l):=by
 refine ⟨by simp [itRow,h.length],fun u hu=>?_,?_⟩
 ·obtain ⟨z,_,rfl⟩:=List.mem_map.1 hu; rfl
 ·cases ao with
  | none=>
    refine .inl ⟨rfl,?_⟩
    rcases Nat.eq_zero_or_pos n with h0 | h0
    ·exact h0
    ·have hl:=h.length
     obtain ⟨g,off,e,_⟩:=h.isI 0 (l[0]'(by omega)) (List.getElem?_eq_getElem _)
     cases e
  | some ad=>
    refine .inr ⟨ad,rfl,fun j u hj=>?_⟩
    have hjl:j < l.length:=by have:=(List.getElem?_eq_some_iff.1 hj).1; simpa [itRow] using this
    obtain ⟨g,off,e,hc⟩:=h.isI j (l[j]'hjl) (List.getElem?_eq_getElem _)
    cases e
    rw [Go.WideShapes.add_plain,hc,<- hj]
    simp [itRow,List.getElem?_eq_getElem hjl]
theorem src_row {w:World} {base:Nat} {e:TypeId} {size:Nat} {ao:Option Addr} {n cap:Nat} {xs:List Value} (h:w.ownsRow base e size (.slice ao n cap) n xs) (h1:∀ u ∈ xs,u.oneCell' = true):SrcAt w ao n size xs:=by
 refine ⟨h.1,h1,?_⟩
 rcases h.2 with ⟨e1,e2⟩ | ⟨g,c,cur,e1,_⟩
 ·cases e1; exact .inl ⟨rfl,e2⟩
 ·cases e1
  refine .inr ⟨_,rfl,fun j u hj=>?_⟩
  have:=(owned_cells h j u hj).1
  rw [Go.WideShapes.add_plain,Nat.zero_add]
  exact this
theorem SrcAt.below {w w':World} {ao:Option Addr} {n size:Nat} {xs:List Value} (h:SrcAt w ao n size xs) (hb:Below w.heap.size w w'):SrcAt w' ao n size xs:=by
 refine ⟨h.1,h.2.1,?_⟩
 rcases h.2.2 with h1 | ⟨ad,h1,hc⟩
 ·exact .inl h1
 ·refine .inr ⟨ad,h1,fun j u hj=>?_⟩
  have:=hc j u hj
  rw [hb.cell (World.block_lt_of_cell? w _ this)]
  exact this
theorem src_dfs {w:World} {ao:Option Addr} {n:Nat} {l:List Df} (h:DfsAt w ao n l):SrcAt w ao n 4 (dfRow l):=by
 refine ⟨?_,fun u hu=>?_,?_⟩
 ·rw [<- h.length]
  clear h
  induction l with
  | nil=>rfl
  | cons d r ih=>rw [show dfRow (d :: r) = dfCells d ++ dfRow r from rfl,List.length_append,ih]; simp [dfCells]; omega
 ·obtain ⟨d,_,hd⟩:=List.mem_flatMap.1 hu
  exact df_one d u hd
 ·rcases Nat.eq_zero_or_pos n with h0 | h0
  ·cases ao with
   | none=>exact .inl ⟨rfl,h0⟩
   | some ad=>
     refine .inr ⟨ad,rfl,fun j u hj=>?_⟩
     have hl:l = []:=List.eq_nil_of_length_eq_zero (by rw [h.length]; exact h0)
     rw [hl] at hj
     simp [dfRow] at hj
  ·obtain ⟨g,off,rfl,hc⟩:=h.cells h0
   refine .inr ⟨_,rfl,fun j u hj=>?_⟩
   have hjl:j < l.length * 4:=by
    have h1:=(List.getElem?_eq_some_iff.1 hj).1
    have h2:(dfRow l).length = l.length * 4:=by
     clear h hj h1 hc
     induction l with
     | nil=>rfl
     | cons d r ih=>rw [show dfRow (d :: r) = dfCells d ++ dfRow r from rfl,List.length_append,ih]; simp [dfCells]; omega
    omega
   have hq:j / 4 < l.length:=by omega
   obtain ⟨c0,c1,c2,c3⟩:=hc (j / 4) (l[j / 4]'hq) (List.getElem?_eq_getElem _)
   have hm:j % 4 < 4:=Nat.mod_lt _ (by decide)
   have hg:∀ (t:Nat) (v:Value),t = j % 4 -> (dfCells (l[j / 4]'hq))[t]? = some v -> u = v:=fun t v ht hv=>by
    have:=flat_get (f:=dfCells) (s:=4) (fun _=>rfl) l (j / 4) _ t v (List.getElem?_eq_getElem hq) hv
    rw [ht,show j / 4 * 4 + j % 4 = j by omega] at this
    rw [show (dfRow l)[j]? = (l.flatMap dfCells)[j]? from rfl,this] at hj
    cases hj; rfl
   rw [Go.WideShapes.add_plain]
   have h4:j % 4 = 0 \/ j % 4 = 1 \/ j % 4 = 2 \/ j % 4 = 3:=by omega
   rcases h4 with h4 | h4 | h4 | h4
   ·rw [hg 0 _ h4.symm rfl,show off + j = off + j / 4 * 4 by omega]; exact c0
   ·rw [hg 1 _ h4.symm rfl,show off + j = off + j / 4 * 4 + 1 by omega]; exact c1
   ·rw [hg 2 _ h4.symm rfl,show off + j = off + j / 4 * 4 + 2 by omega]; exact c2
   ·rw [hg 3 _ h4.symm rfl,show off + j = off + j / 4 * 4 + 3 by omega]; exact c3
set_option maxRecDepth 20000
set_option maxHeartbeats 1000000
theorem grow67_calls (n:Nat) (w:World) (hn:n <= 100000):Calls Tryz.prog 63 #[.slice none 0 0,I J (n:Int)] w fun e w'=>RowPost 53 4 0 [] w e w':=by
 obtain ⟨i0,hi,hz0,hz1,hz2⟩:=info_parts info43
 by_cases h0:n = 0
 ·subst h0
  go_enter Tryz.func63,Tryz.ntmps63
  go_wp2
  go_ret
  exact ⟨none,0,rfl,none_row _ _ _ _,Below.refl _ _⟩
 ·have h1:decide ((n:Int) < 0) = false:=by simp
  have h4:decide ((0:Int) < (n:Int)) = true:=by simp; omega
  have hrz:∀ ty,(Builtin.append_ #[22,3] ty #[.slice none 0 0,I J (n:Int)]).run Tryz.prog w =
   .ok (.slice (some ⟨w.heap.size,0,none⟩) n (grownCap w n 0 53)) (w.drew.alloc (.cells (([]:List Value).toArray ++ Builtin.zeroCells (.agg #[I J 0,I J 0,I J 0,I J 0]:Value).cells n ++ Builtin.zeroCells (.agg #[I J 0,I J 0,I J 0,I J 0]:Value).cells (grownCap w n 0 53 - n)) 53)):=fun ty=>by
   have h:=Lib.run_append_grow_zeros w 22 3 ty 53 i0 _ .i64 .i64 Tryz.underlying22 Tryz.underlying3 hi hz0 none 0 0 [] (by rw [hz1]; exact run_firstCells_none w.drew 4 0 0 0) n (by omega) (by rw [hz1]; decide) (by omega) (by omega) (by rw [hz2]; omega) (by rw [hz2]; rw [Nat.zero_add]; exact growslice_fits (by omega) (by omega))
   rw [Nat.zero_add] at h
   exact h
  obtain ⟨G,hG⟩:∃ G,G = grownCap w n 0 53:=⟨_,rfl⟩
  have hGn:n <= G:=by rw [hG]; exact grownCap_ge w _ _ _
  have hG63:G <= maxLen:=by rw [hG]; exact grownCap_le_maxLen w n 0 53 (by unfold maxLen; omega)
  rw [<- hG] at hrz
  have HM:Hid (G <= maxLen):=hG63
  unfold maxLen at hG63
  clear hG
  have HO:Hid ((w.drew.alloc (.cells (([]:List Value).toArray ++ Builtin.zeroCells (.agg #[I J 0,I J 0,I J 0,I J 0]:Value).cells n ++ Builtin.zeroCells (.agg #[I J 0,I J 0,I J 0,I J 0]:Value).cells (G - n)) 53)).ownsRow w.heap.size 53 4 (.slice (some ⟨w.heap.size,0,none⟩) 0 G) 0 [] /\ Below w.heap.size w (w.drew.alloc (.cells (([]:List Value).toArray ++ Builtin.zeroCells (.agg #[I J 0,I J 0,I J 0,I J 0]:Value).cells n ++ Builtin.zeroCells (.agg #[I J 0,I J 0,I J 0,I J 0]:Value).cells (G - n)) 53))):=by
   refine ⟨⟨by simp,.inr ⟨w.heap.size,G,_,rfl,Nat.le_refl _,heap_alloc_new w.drew _,by omega,HM.out,?_,by simp⟩⟩,((Below.refl _ _).drew).alloc (by simp) _⟩
   simp only [Array.size_append,size_zeroCells]
   have hc:((.agg #[I J 0,I J 0,I J 0,I J 0]:Value).cells).size = 4:=rfl
   rw [hc]
   simp
   omega
  obtain ⟨W2,hW2⟩:∃ W2,W2 = (w.drew.alloc (.cells (([]:List Value).toArray ++ Builtin.zeroCells (.agg #[I J 0,I J 0,I J 0,I J 0]:Value).cells n ++ Builtin.zeroCells (.agg #[I J 0,I J 0,I J 0,I J 0]:Value).cells (G - n)) 53)):=⟨_,rfl⟩
  rw [<- hW2] at hrz HO
  clear hW2
  go_enter Tryz.func63,Tryz.ntmps63
  go_wp2_with (at_builtin; refine Lib.wpList_append_run _ rfl _ _ _ _ rfl _ _ rfl rfl _ _ (hrz _) ?_)
  go_ret
  exact ⟨_,_,rfl,HO.out⟩
theorem grow54_calls (n:Nat) (w:World) (hn:n <= 100000):Calls Tryz.prog 103 #[.slice none 0 0,I J (n:Int)] w fun e w'=>RowPost 44 2 0 [] w e w':=by
 obtain ⟨i0,hi,hz0,hz1,hz2⟩:=info_parts info54
 by_cases h0:n = 0
 ·subst h0
  go_enter Tryz.func103,Tryz.ntmps103
  go_wp2
  go_ret
  exact ⟨none,0,rfl,none_row _ _ _ _,Below.refl _ _⟩
 ·have h1:decide ((n:Int) < 0) = false:=by simp
  have h4:decide ((0:Int) < (n:Int)) = true:=by simp; omega
  have hrz:∀ ty,(Builtin.append_ #[40,3] ty #[.slice none 0 0,I J (n:Int)]).run Tryz.prog w =
   .ok (.slice (some ⟨w.heap.size,0,none⟩) n (grownCap w n 0 44)) (w.drew.alloc (.cells (([]:List Value).toArray ++ Builtin.zeroCells (.agg #[I J 0,I J 0]:Value).cells n ++ Builtin.zeroCells (.agg #[I J 0,I J 0]:Value).cells (grownCap w n 0 44 - n)) 44)):=fun ty=>by
   have h:=Lib.run_append_grow_zeros w 40 3 ty 44 i0 _ .i64 .i64 Tryz.underlying40 Tryz.underlying3 hi hz0 none 0 0 [] (by rw [hz1]; exact run_firstCells_none w.drew 2 0 0 0) n (by omega) (by rw [hz1]; decide) (by omega) (by omega) (by rw [hz2]; omega) (by rw [hz2]; rw [Nat.zero_add]; exact growslice_fits (by omega) (by omega))
   rw [Nat.zero_add] at h
   exact h
  obtain ⟨G,hG⟩:∃ G,G = grownCap w n 0 44:=⟨_,rfl⟩
  have hGn:n <= G:=by rw [hG]; exact grownCap_ge w _ _ _
  have hG63:G <= maxLen:=by rw [hG]; exact grownCap_le_maxLen w n 0 44 (by unfold maxLen; omega)
  rw [<- hG] at hrz
  have HM:Hid (G <= maxLen):=hG63
  unfold maxLen at hG63
  clear hG
  have HO:Hid ((w.drew.alloc (.cells (([]:List Value).toArray ++ Builtin.zeroCells (.agg #[I J 0,I J 0]:Value).cells n ++ Builtin.zeroCells (.agg #[I J 0,I J 0]:Value).cells (G - n)) 44)).ownsRow w.heap.size 44 2 (.slice (some ⟨w.heap.size,0,none⟩) 0 G) 0 [] /\ Below w.heap.size w (w.drew.alloc (.cells (([]:List Value).toArray ++ Builtin.zeroCells (.agg #[I J 0,I J 0]:Value).cells n ++ Builtin.zeroCells (.agg #[I J 0,I J 0]:Value).cells (G - n)) 44))):=by
   refine ⟨⟨by simp,.inr ⟨w.heap.size,G,_,rfl,Nat.le_refl _,heap_alloc_new w.drew _,by omega,HM.out,?_,by simp⟩⟩,((Below.refl _ _).drew).alloc (by simp) _⟩
   simp only [Array.size_append,size_zeroCells]
   have hc:((.agg #[I J 0,I J 0]:Value).cells).size = 2:=rfl
   rw [hc]
   simp
   omega
  obtain ⟨W2,hW2⟩:∃ W2,W2 = (w.drew.alloc (.cells (([]:List Value).toArray ++ Builtin.zeroCells (.agg #[I J 0,I J 0]:Value).cells n ++ Builtin.zeroCells (.agg #[I J 0,I J 0]:Value).cells (G - n)) 44)):=⟨_,rfl⟩
  rw [<- hW2] at hrz HO
  clear hW2
  go_enter Tryz.func103,Tryz.ntmps103
  go_wp2_with (at_builtin; refine Lib.wpList_append_run _ rfl _ _ _ _ rfl _ _ rfl rfl _ _ (hrz _) ?_)
  go_ret
  exact ⟨_,_,rfl,HO.out⟩
theorem concat67_calls (L:List (List Value)) (ns:List Nat) (g m:Nat) (w:World) (hm:ns.length = m) (hL:L.length = m) (hm2:m <= 100) (hs:ns.sum <= 100000)
 (h:∀ (i:Nat) (xs:List Value) (n:Nat),L[i]? = some xs -> ns[i]? = some n -> ∃ a c,w.cell? ⟨g,i,none⟩ = some (.slice a n c) /\ SrcAt w a n 4 xs) (c0:Nat) :
 Calls Tryz.prog 32 #[.slice (some ⟨g,0,none⟩) m c0] w fun e w'=>RowPost 53 4 ns.sum L.flatten w e w':=by
 have HC:Hid (∀ (i:Nat),i < m -> ∃ xs n a c,L[i]? = some xs /\ ns[i]? = some n /\ w.cell? ⟨g,i,none⟩ = some (.slice a n c) /\ SrcAt w a n 4 xs):=fun i hi=>by
  have h1:L[i]? = some (L[i]'(by omega)):=List.getElem?_eq_getElem _
  have h2:ns[i]? = some (ns[i]'(by omega)):=List.getElem?_eq_getElem _
  obtain ⟨a,c,q1,q2⟩:=h i _ _ h1 h2
  exact ⟨_,_,a,c,h1,h2,q1,q2⟩
 have HL:Hid (ns.length = m /\ L.length = m /\ ns.sum <= 100000):=⟨hm,hL,hs⟩
 clear h hm hL
 obtain ⟨i0,hi,hz0,hz1,hz2⟩:=info_parts info43
 go_enter Tryz.func32,Tryz.ntmps32
 go_wp2_with fail
 go_loop [3,5,11] (fun sv _ iv=>∃ k:Nat,k <= m /\ iv = I J k /\ sv = I J (((ns.take k).sum:Nat):Int)) (fun _ _ i=>m - (intOf i).toNat)
 case atStart=>exact ⟨0,Nat.zero_le _,rfl,by simp⟩
 case round=>
  obtain ⟨k,hk,rfl,rfl⟩:=hrel
  by_cases hlt:k < m
  ·obtain ⟨xs,n,a,c,h1,h2,hc,_⟩:=HC.out k hlt
   have hsum:(ns.take (k + 1)).sum = (ns.take k).sum + n:=by
    obtain ⟨q1,q2⟩:=List.getElem?_eq_some_iff.1 h2
    rw [List.take_succ_eq_append_getElem q1,q2]; simp
   have hle:(ns.take (k + 1)).sum <= 100000:=by
    have h5:(ns.take (k + 1)).sum + (ns.drop (k + 1)).sum = ns.sum:=by rw [<- List.sum_append_nat,List.take_append_drop]
    have:=HL.out.2.2
    omega
   rw [hsum] at hle
   obtain ⟨S,hS⟩:∃ S,(ns.take k).sum = S:=⟨_,rfl⟩
   rw [hS] at hsum hle
   rw [hS]
   have hd:decide (((S:Int) + (n:Int)) < 0) = false:=by simp; omega
   have HS2:Hid ((ns.take (k + 1)).sum = S + n):=hsum
   clear h1 h2 hsum hS
   go_wp2
   go_round
   case rel=>exact ⟨k + 1,by omega,by go_num,by rw [HS2.out]; go_num⟩
   case measure=>simp [intOf]; omega
  ·have hkm:k = m:=by omega
   subst hkm
   have HT:Hid ((ns.take k).sum = ns.sum):=by show (ns.take k).sum = ns.sum; rw [List.take_of_length_le (by have:=HL.out.1; omega)]
   rw [HT.out]
   go_wp2_with fail
   refine (grow67_calls ns.sum w HL.out.2.2).mono ?_
   rintro e w2 ⟨ao,cap,rfl,hown,hb⟩
   have HO:Hid (w2.ownsRow w.heap.size 53 4 (.slice ao 0 cap) 0 [] /\ Below w.heap.size w w2):=⟨hown,hb⟩
   clear hown hb
   go_wp2_with fail
   go_loopg [6,8,27] k (fun q sv _ iv wr=>∃ (i:Nat) (vo:Option Addr) (vc:Nat),i + q = k /\ iv = I J i /\ sv = .slice vo (ns.take i).sum vc /\ Hid (wr.ownsRow w.heap.size 53 4 (.slice vo (ns.take i).sum vc) (ns.take i).sum (L.take i).flatten /\ Below w.heap.size w wr))
   case atStart=>exact ⟨0,ao,cap,by omega,rfl,rfl,HO.out⟩
   case round=>
    clear HO HT
    obtain ⟨i,vo,vc,hiq,rfl,rfl,HT⟩:=hrel
    by_cases hin:i < k
    ·obtain ⟨xs,n,a,c,h1,h2,hc,hsrc⟩:=HC.out i hin
     have hsum:(ns.take (i + 1)).sum = (ns.take i).sum + n:=by
      obtain ⟨q1,q2⟩:=List.getElem?_eq_some_iff.1 h2
      rw [List.take_succ_eq_append_getElem q1,q2]; simp
     have hfl:(L.take (i + 1)).flatten = (L.take i).flatten ++ xs:=by
      obtain ⟨q1,q2⟩:=List.getElem?_eq_some_iff.1 h1
      rw [List.take_succ_eq_append_getElem q1,q2]; simp
     have hle:(ns.take (i + 1)).sum <= 100000:=by
      have h5:(ns.take (i + 1)).sum + (ns.drop (i + 1)).sum = ns.sum:=by rw [<- List.sum_append_nat,List.take_append_drop]
      have:=HL.out.2.2
      omega
     rw [hsum] at hle
     obtain ⟨S,hS⟩:∃ S,(ns.take i).sum = S:=⟨_,rfl⟩
     obtain ⟨F,hF⟩:∃ F,(L.take i).flatten = F:=⟨_,rfl⟩
     rw [hS] at hsum hle
     rw [hF] at hfl
     rw [hS,hF] at HT
     rw [hS]
     have hc2:wr.cell? ⟨g,i,none⟩ = some (.slice a n c):=by rw [HT.out.2.cell (World.block_lt_of_cell? w _ hc)]; exact hc
     have HS2:Hid ((ns.take (i + 1)).sum = S + n /\ (L.take (i + 1)).flatten = F ++ xs /\ SrcAt wr a n 4 xs):=⟨hsum,hfl,hsrc.below HT.out.2⟩
     clear h1 h2 hsum hfl hsrc hS hF hc
     go_wp2_with (at_builtin; refine wpList_append_opt rfl _ _ 22 rfl w.heap.size 53 i0 _ 4 32 Tryz.underlying22 hi hz0 hz1 hz2 rfl (by decide) (.slice vo S vc) S F rfl HT.out.1 a n c xs rfl HS2.out.2.2 (by unfold maxLen; omega) (by omega) HT.out.2.size ?_)
     intro v' w5 ho hg
     obtain ⟨ao5,c5,rfl⟩:=owned_shape ho
     have HN:Hid (w5.ownsRow w.heap.size 53 4 (.slice ao5 (ns.take (i + 1)).sum c5) (ns.take (i + 1)).sum (L.take (i + 1)).flatten /\ Below w.heap.size w w5):=by
      refine ⟨by rw [HS2.out.1,HS2.out.2.1]; exact ho,HT.out.2.grown hg HT.out.2.size (owned_from HT.out.1)⟩
     have HS3:Hid ((ns.take (i + 1)).sum = S + n):=HS2.out.1
     clear ho hg HT HS2
     go_wp2_with fail
     go_roundg (gk - 1)
     case measure=>omega
     case rel=>exact ⟨i + 1,ao5,c5,by omega,by go_num,by rw [HS3.out],HN.out⟩
    ·have hik:i = k:=by omega
     subst hik
     have HY:Hid (wr.ownsRow w.heap.size 53 4 (.slice vo ns.sum vc) ns.sum L.flatten /\ Below w.heap.size w wr):=by
      have:=HT.out
      rw [List.take_of_length_le (by have:=HL.out.1; omega),List.take_of_length_le (by have:=HL.out.2.1; omega)] at this
      exact this
     have HT2:Hid ((ns.take i).sum = ns.sum):=by show (ns.take i).sum = ns.sum; rw [List.take_of_length_le (by have:=HL.out.1; omega)]
     rw [HT2.out]
     clear HT
     go_wp2
     go_ret
     exact ⟨vo,vc,rfl,HY.out⟩
theorem concat54_calls (L:List (List Value)) (ns:List Nat) (g m:Nat) (w:World) (hm:ns.length = m) (hL:L.length = m) (hm2:m <= 100) (hs:ns.sum <= 100000)
 (h:∀ (i:Nat) (xs:List Value) (n:Nat),L[i]? = some xs -> ns[i]? = some n -> ∃ a c,w.cell? ⟨g,i,none⟩ = some (.slice a n c) /\ SrcAt w a n 2 xs) (c0:Nat) :
 Calls Tryz.prog 66 #[.slice (some ⟨g,0,none⟩) m c0] w fun e w'=>RowPost 44 2 ns.sum L.flatten w e w':=by
 have HC:Hid (∀ (i:Nat),i < m -> ∃ xs n a c,L[i]? = some xs /\ ns[i]? = some n /\ w.cell? ⟨g,i,none⟩ = some (.slice a n c) /\ SrcAt w a n 2 xs):=fun i hi=>by
  have h1:L[i]? = some (L[i]'(by omega)):=List.getElem?_eq_getElem _
  have h2:ns[i]? = some (ns[i]'(by omega)):=List.getElem?_eq_getElem _
  obtain ⟨a,c,q1,q2⟩:=h i _ _ h1 h2
  exact ⟨_,_,a,c,h1,h2,q1,q2⟩
 have HL:Hid (ns.length = m /\ L.length = m /\ ns.sum <= 100000):=⟨hm,hL,hs⟩
 clear h hm hL
 obtain ⟨i0,hi,hz0,hz1,hz2⟩:=info_parts info54
 go_enter Tryz.func66,Tryz.ntmps66
 go_wp2_with fail
 go_loop [3,5,11] (fun sv _ iv=>∃ k:Nat,k <= m /\ iv = I J k /\ sv = I J (((ns.take k).sum:Nat):Int)) (fun _ _ i=>m - (intOf i).toNat)
 case atStart=>exact ⟨0,Nat.zero_le _,rfl,by simp⟩
 case round=>
  obtain ⟨k,hk,rfl,rfl⟩:=hrel
  by_cases hlt:k < m
  ·obtain ⟨xs,n,a,c,h1,h2,hc,_⟩:=HC.out k hlt
   have hsum:(ns.take (k + 1)).sum = (ns.take k).sum + n:=by
    obtain ⟨q1,q2⟩:=List.getElem?_eq_some_iff.1 h2
    rw [List.take_succ_eq_append_getElem q1,q2]; simp
   have hle:(ns.take (k + 1)).sum <= 100000:=by
    have h5:(ns.take (k + 1)).sum + (ns.drop (k + 1)).sum = ns.sum:=by rw [<- List.sum_append_nat,List.take_append_drop]
    have:=HL.out.2.2
    omega
   rw [hsum] at hle
   obtain ⟨S,hS⟩:∃ S,(ns.take k).sum = S:=⟨_,rfl⟩
   rw [hS] at hsum hle
   rw [hS]
   have hd:decide (((S:Int) + (n:Int)) < 0) = false:=by simp; omega
   have HS2:Hid ((ns.take (k + 1)).sum = S + n):=hsum
   clear h1 h2 hsum hS
   go_wp2
   go_round
   case rel=>exact ⟨k + 1,by omega,by go_num,by rw [HS2.out]; go_num⟩
   case measure=>simp [intOf]; omega
  ·have hkm:k = m:=by omega
   subst hkm
   have HT:Hid ((ns.take k).sum = ns.sum):=by show (ns.take k).sum = ns.sum; rw [List.take_of_length_le (by have:=HL.out.1; omega)]
   rw [HT.out]
   go_wp2_with fail
   refine (grow54_calls ns.sum w HL.out.2.2).mono ?_
   rintro e w2 ⟨ao,cap,rfl,hown,hb⟩
   have HO:Hid (w2.ownsRow w.heap.size 44 2 (.slice ao 0 cap) 0 [] /\ Below w.heap.size w w2):=⟨hown,hb⟩
   clear hown hb
   go_wp2_with fail
   go_loopg [6,8,27] k (fun q sv _ iv wr=>∃ (i:Nat) (vo:Option Addr) (vc:Nat),i + q = k /\ iv = I J i /\ sv = .slice vo (ns.take i).sum vc /\ Hid (wr.ownsRow w.heap.size 44 2 (.slice vo (ns.take i).sum vc) (ns.take i).sum (L.take i).flatten /\ Below w.heap.size w wr))
   case atStart=>exact ⟨0,ao,cap,by omega,rfl,rfl,HO.out⟩
   case round=>
    clear HO HT
    obtain ⟨i,vo,vc,hiq,rfl,rfl,HT⟩:=hrel
    by_cases hin:i < k
    ·obtain ⟨xs,n,a,c,h1,h2,hc,hsrc⟩:=HC.out i hin
     have hsum:(ns.take (i + 1)).sum = (ns.take i).sum + n:=by
      obtain ⟨q1,q2⟩:=List.getElem?_eq_some_iff.1 h2
      rw [List.take_succ_eq_append_getElem q1,q2]; simp
     have hfl:(L.take (i + 1)).flatten = (L.take i).flatten ++ xs:=by
      obtain ⟨q1,q2⟩:=List.getElem?_eq_some_iff.1 h1
      rw [List.take_succ_eq_append_getElem q1,q2]; simp
     have hle:(ns.take (i + 1)).sum <= 100000:=by
      have h5:(ns.take (i + 1)).sum + (ns.drop (i + 1)).sum = ns.sum:=by rw [<- List.sum_append_nat,List.take_append_drop]
      have:=HL.out.2.2
      omega
     rw [hsum] at hle
     obtain ⟨S,hS⟩:∃ S,(ns.take i).sum = S:=⟨_,rfl⟩
     obtain ⟨F,hF⟩:∃ F,(L.take i).flatten = F:=⟨_,rfl⟩
     rw [hS] at hsum hle
     rw [hF] at hfl
     rw [hS,hF] at HT
     rw [hS]
     have hc2:wr.cell? ⟨g,i,none⟩ = some (.slice a n c):=by rw [HT.out.2.cell (World.block_lt_of_cell? w _ hc)]; exact hc
     have HS2:Hid ((ns.take (i + 1)).sum = S + n /\ (L.take (i + 1)).flatten = F ++ xs /\ SrcAt wr a n 2 xs):=⟨hsum,hfl,hsrc.below HT.out.2⟩
     clear h1 h2 hsum hfl hsrc hS hF hc
     go_wp2_with (at_builtin; refine wpList_append_opt rfl _ _ 40 rfl w.heap.size 44 i0 _ 2 16 Tryz.underlying40 hi hz0 hz1 hz2 rfl (by decide) (.slice vo S vc) S F rfl HT.out.1 a n c xs rfl HS2.out.2.2 (by unfold maxLen; omega) (by omega) HT.out.2.size ?_)
     intro v' w5 ho hg
     obtain ⟨ao5,c5,rfl⟩:=owned_shape ho
     have HN:Hid (w5.ownsRow w.heap.size 44 2 (.slice ao5 (ns.take (i + 1)).sum c5) (ns.take (i + 1)).sum (L.take (i + 1)).flatten /\ Below w.heap.size w w5):=by
      refine ⟨by rw [HS2.out.1,HS2.out.2.1]; exact ho,HT.out.2.grown hg HT.out.2.size (owned_from HT.out.1)⟩
     have HS3:Hid ((ns.take (i + 1)).sum = S + n):=HS2.out.1
     clear ho hg HT HS2
     go_wp2_with fail
     go_roundg (gk - 1)
     case measure=>omega
     case rel=>exact ⟨i + 1,ao5,c5,by omega,by go_num,by rw [HS3.out],HN.out⟩
    ·have hik:i = k:=by omega
     subst hik
     have HY:Hid (wr.ownsRow w.heap.size 44 2 (.slice vo ns.sum vc) ns.sum L.flatten /\ Below w.heap.size w wr):=by
      have:=HT.out
      rw [List.take_of_length_le (by have:=HL.out.1; omega),List.take_of_length_le (by have:=HL.out.2.1; omega)] at this
      exact this
     have HT2:Hid ((ns.take i).sum = ns.sum):=by show (ns.take i).sum = ns.sum; rw [List.take_of_length_le (by have:=HL.out.1; omega)]
     rw [HT2.out]
     clear HT
     go_wp2
     go_ret
     exact ⟨vo,vc,rfl,HY.out⟩
theorem cloneI_calls (l:List Int) (sa:Addr) (n sc:Nat) (w:World) (h:IntA w (some sa) n l) (hs:n <= 400) :
 Calls Tryz.prog 34 #[.slice (some sa) n sc] w fun e w'=>RowPost 3 1 n (itRow l) w e w':=by
 obtain ⟨i0,hi,hz0,hz1,hz2⟩:=info_parts info3
 have HS:Hid (SrcAt (w.alloc (.cells #[] 3)) (some sa) n 1 (itRow l)):=(src_ints h).below ((Below.refl _ _).alloc (Nat.le_refl _) _)
 have HO:Hid ((w.alloc (.cells #[] 3)).ownsRow w.heap.size 3 1 (.slice (some ⟨w.heap.size,0,none⟩) 0 0) 0 [] /\ Below w.heap.size w (w.alloc (.cells #[] 3))):=⟨empty_row w 3 1 w.heap.size (Nat.le_refl _) _ rfl,(Below.refl _ _).alloc (Nat.le_refl _) _⟩
 have q23:∀ (w:World) (a:Option Addr) (n c n' c':Nat),(binOp .eql 23 (.slice a n c) (.slice none n' c')).run Tryz.prog w = .ok (.bool a.isNone) w:=fun w a n c n' c'=>Lib.run_eql_slice_nil w _ _ a n c n' c' Tryz.underlying23
 clear h
 go_enter Tryz.func34,Tryz.ntmps34
 go_wp2_with (at_builtin; refine wpList_append_opt rfl _ _ 23 rfl w.heap.size 3 i0 _ 1 8 Tryz.underlying23 hi hz0 hz1 hz2 rfl (by decide) (.slice (some ⟨w.heap.size,0,none⟩) 0 0) 0 [] rfl HO.out.1 (some sa) n sc (itRow l) rfl HS.out (by unfold maxLen; omega) (by omega) HO.out.2.size ?_)
 intro v' w5 ho hg
 obtain ⟨ao5,c5,rfl⟩:=owned_shape ho
 have HN:Hid (w5.ownsRow w.heap.size 3 1 (.slice ao5 n c5) n (itRow l) /\ Below w.heap.size w w5):=⟨ho,HO.out.2.grown hg HO.out.2.size (owned_from HO.out.1)⟩
 clear ho hg
 go_wp2
 go_ret
 exact ⟨ao5,c5,rfl,HN.out⟩
set_option maxRecDepth 20000
set_option maxHeartbeats 2000000
/-- Three rows of edges behind one another. -/
theorem concat3_calls {b1 b2 b3:Nat} {a1 a2 a3:Option Addr} {n1 n2 n3 c1 c2 c3:Nat} {x1 x2 x3:List (Int × Int)} (W:World) (h1:W.ownsRow b1 44 2 (.slice a1 n1 c1) n1 (pcRow x1)) (h2:W.ownsRow b2 44 2 (.slice a2 n2 c2) n2 (pcRow x2)) (h3:W.ownsRow b3 44 2 (.slice a3 n3 c3) n3 (pcRow x3)) (hs:n1 + n2 + n3 <= 100) (g:Nat) (hg:g = W.heap.size) :
 Calls Tryz.prog 66 #[.slice (some ⟨g,0,none⟩) 3 3] (W.alloc (.cells #[.slice a1 n1 c1,.slice a2 n2 c2,.slice a3 n3 c3] 40)) fun e w'=>RowPost 44 2 (n1 + n2 + n3) (pcRow (x1 ++ x2 ++ x3)) (W.alloc (.cells #[.slice a1 n1 c1,.slice a2 n2 c2,.slice a3 n3 c3] 40)) e w':=by
 subst hg
 have hb:Below W.heap.size W (W.alloc (.cells #[.slice a1 n1 c1,.slice a2 n2 c2,.slice a3 n3 c3] 40)):=(Below.refl _ _).alloc (Nat.le_refl _) _
 have hp:∀ (x:List (Int × Int)),∀ u ∈ pcRow x,u.oneCell' = true:=fun x u hu=>by
  obtain ⟨d,_,hd⟩:=List.mem_flatMap.1 hu
  exact pc_one d u hd
 have hn:=heap_alloc_new W (.cells #[.slice a1 n1 c1,.slice a2 n2 c2,.slice a3 n3 c3] 40)
 have:=concat54_calls [pcRow x1,pcRow x2,pcRow x3] [n1,n2,n3] W.heap.size 3 (W.alloc (.cells #[.slice a1 n1 c1,.slice a2 n2 c2,.slice a3 n3 c3] 40)) rfl rfl (by omega) (by simp; omega) (fun i xs n hi hn2=>by
  match i,hi,hn2 with
  | 0,hi,hn2=>cases hi; cases hn2; exact ⟨a1,c1,blk hn rfl,(src_row h1 (hp _)).below hb⟩
  | 1,hi,hn2=>cases hi; cases hn2; exact ⟨a2,c2,blk hn rfl,(src_row h2 (hp _)).below hb⟩
  | 2,hi,hn2=>cases hi; cases hn2; exact ⟨a3,c3,blk hn rfl,(src_row h3 (hp _)).below hb⟩
  | i + 3,hi,hn2=>simp at hi) 3
 rw [show [n1,n2,n3].sum = n1 + n2 + n3 by simp; omega,show [pcRow x1,pcRow x2,pcRow x3].flatten = pcRow (x1 ++ x2 ++ x3) by simp [pcRow]] at this
 exact this
/-- Numbers in a row that is owned. -/
structure IntO (w:World) (base:Nat) (ao:Option Addr) (n:Nat) (l:List Int):Prop where
 len:l.length = n
 short:n <= maxLen
 own:∃ c,w.ownsRow base 3 1 (.slice ao n c) n (itRow l)
theorem IntO.at {w:World} {base:Nat} {ao:Option Addr} {n:Nat} {l:List Int} (h:IntO w base ao n l):IntA w ao n l:=by
 obtain ⟨c,hc⟩:=h.own
 exact intA_own hc h.len h.short
theorem IntO.below {w w':World} {base:Nat} {ao:Option Addr} {n:Nat} {l:List Int} (h:IntO w base ao n l) (hb:Below w.heap.size w w'):IntO w' base ao n l:=by
 obtain ⟨c,hc⟩:=h.own
 exact ⟨h.len,h.short,c,owned_below hc hb⟩
theorem IntO.grown {w w':World} {base base2:Nat} {ao:Option Addr} {n:Nat} {l:List Int} (h:IntO w base ao n l) {v:Value} {m:Nat} {xs:List Value} (ho:w.ownsRow base2 42 2 v m xs) (hg:w.grownBy w' v.ownBlock):IntO w' base ao n l:=by
 obtain ⟨c,hc⟩:=h.own
 exact ⟨h.len,h.short,c,owned_grown hc ho (by decide) hg⟩
/-- A state as its cells. -/
abbrev Sr:=Int × Option Addr × Nat × Nat
def srCells (s:Sr):List Value:=[I J s.1,.slice s.2.1 s.2.2.1 s.2.2.2]
def srRow (l:List Sr):List Value:=l.flatMap srCells
theorem srRow_snoc (l:List Sr) (s:Sr):srRow (l ++ [s]) = srRow l ++ srCells s:=by simp [srRow]
theorem sr_one (s:Sr):∀ u ∈ srCells s,u.oneCell' = true:=by
 intro u hu
 simp [srCells] at hu
 rcases hu with rfl | rfl <;> rfl
theorem sr_new (W:World) (k:Int) (a:Option Addr) (n c:Nat):∀ (i:Nat) (u:Value),(srCells (k,a,n,c))[i]? = some u -> (W.alloc (.cells #[I J k,.slice a n c] 42)).cell? ((⟨W.heap.size,0,none⟩:Addr).add i) = some u:=cells_new W (srCells (k,a,n,c)) 42
/-- The edges of each state lie in a row of their own. -/
def Own2 (w:World) (base:Nat) (sl:List Sr) (l:List St):Prop:=sl.length = l.length /\ ∀ (i:Nat) (r:Sr) (s:St),sl[i]? = some r -> l[i]? = some s -> r.1 = s.1 /\ r.2.2.1 = s.2.length /\ s.2.length <= 100 /\ w.ownsRow base 44 2 (.slice r.2.1 r.2.2.1 r.2.2.2) r.2.2.1 (pcRow s.2)
theorem Own2.below {w w':World} {base:Nat} {sl:List Sr} {l:List St} (h:Own2 w base sl l) (hb:Below w.heap.size w w'):Own2 w' base sl l:=
 ⟨h.1,fun i r s hi hs=>⟨(h.2 i r s hi hs).1,(h.2 i r s hi hs).2.1,(h.2 i r s hi hs).2.2.1,owned_below (h.2 i r s hi hs).2.2.2 hb⟩⟩
theorem Own2.nil (w:World) (base:Nat):Own2 w base [] []:=⟨rfl,fun i r s hi=>by simp at hi⟩
theorem Own2.snoc {w:World} {base:Nat} {sl:List Sr} {l:List St} (h:Own2 w base sl l) {k:Int} {es:List (Int × Int)} {a:Option Addr} {n c:Nat} (hn:n = es.length) (hl:es.length <= 100) (ho:w.ownsRow base 44 2 (.slice a n c) n (pcRow es)):Own2 w base (sl ++ [(k,a,n,c)]) (l ++ [(k,es)]):=by
 refine ⟨by simp [h.1],fun i r s hi hs=>?_⟩
 by_cases hlt:i < sl.length
 ·rw [List.getElem?_append_left hlt] at hi
  rw [List.getElem?_append_left (by rw [<- h.1]; exact hlt)] at hs
  exact h.2 i r s hi hs
 ·have hlen:=h.1
  have h1:=(List.getElem?_eq_some_iff.1 hi).1
  simp at h1
  obtain rfl:i = sl.length:=by omega
  rw [List.getElem?_append_right (Nat.le_refl _),Nat.sub_self] at hi
  rw [hlen,List.getElem?_append_right (Nat.le_refl _),Nat.sub_self] at hs
  simp at hi hs
  subst hi; subst hs
  exact ⟨rfl,hn,hl,ho⟩
theorem Own2.grown {w w':World} {base:Nat} {sl:List Sr} {l:List St} (h:Own2 w base sl l) {v:Value} {n:Nat} {xs:List Value} (ho:w.ownsRow base 42 2 v n xs) (hg:w.grownBy w' v.ownBlock):Own2 w' base sl l:=
 ⟨h.1,fun i r s hi hs=>⟨(h.2 i r s hi hs).1,(h.2 i r s hi hs).2.1,(h.2 i r s hi hs).2.2.1,owned_grown (h.2 i r s hi hs).2.2.2 ho (by decide) hg⟩⟩
/-- The states as a list of rows. -/
structure StsOwn (w:World) (base:Nat) (v:Value) (l:List St):Prop where
 rows:∃ sl,w.ownsRow base 42 2 v l.length (srRow sl) /\ Own2 w base sl l
theorem StsOwn.below {w w':World} {base:Nat} {v:Value} {l:List St} (h:StsOwn w base v l) (hb:Below w.heap.size w w'):StsOwn w' base v l:=by
 obtain ⟨sl,h1,h2⟩:=h.rows
 exact ⟨sl,owned_below h1 hb,h2.below hb⟩
theorem StsOwn.at {w:World} {base:Nat} {ao:Option Addr} {n c:Nat} {l:List St} (h:StsOwn w base (.slice ao n c) l) (hn:n = l.length) (hs:n <= 1000):StsAt w ao n l:=by
 subst hn
 obtain ⟨sl,h1,h2⟩:=h.rows
 refine ⟨rfl,by unfold maxLen; omega,fun h0=>?_⟩
 obtain ⟨g,cap,e,_⟩:=owned_some h1 h0
 cases e
 refine ⟨g,0,rfl,fun i s hi=>?_⟩
 have hil:i < sl.length:=by rw [h2.1]; exact (List.getElem?_eq_some_iff.1 hi).1
 have hsl:sl[i]? = some (sl[i]'hil):=List.getElem?_eq_getElem _
 obtain ⟨q1,q2,q2b,q3⟩:=h2.2 i _ s hsl hi
 have cc:∀ (j:Nat) (u:Value),(srCells (sl[i]'hil))[j]? = some u -> w.cell? ⟨g,0 + (i * 2 + j),none⟩ = some u:=fun j u hu=>by
  rw [Nat.zero_add]
  exact (owned_cells h1 _ _ (flat_get (s:=2) (fun _=>rfl) sl i _ j u hsl hu)).1
 have c0:=cc 0 _ rfl
 rw [q1] at c0
 refine ⟨(sl[i]'hil).2.1,(sl[i]'hil).2.2.1,(sl[i]'hil).2.2.2,c0,cc 1 _ rfl,?_⟩
 rw [q2] at q3 ⊢
 obtain ⟨ao,cap',e,hp⟩:=pcs_own q3 (by unfold maxLen; omega)
 cases e
 exact hp
def delS (ps:List (Int × Int)) (op k:Nat):St:=(2,edgesE ((op + k:Nat):Int) [-1,0] ++ edgesE (ps.getD k (0,0)).2 [1 + (k:Int)] ++ edgesE ((op + k:Nat):Int) (upB ((ps.length:Int) + 1) ps.length))
def insS (ps:List (Int × Int)) (op k:Nat):St:=(3,edgesE ((op + k:Nat):Int) [-1,0] ++ edgesE ((op + k:Nat):Int) (upB 1 ps.length) ++ edgesE (ps.getD k (0,0)).2 [(ps.length:Int) + 1 + (k:Int)])
def upS (f:Nat -> St) (k:Nat):List St:=(List.range k).map f
theorem upS_snoc (f:Nat -> St) (k:Nat):upS f (k + 1) = upS f k ++ [f k]:=by simp [upS,List.range_succ]
theorem upS_len (f:Nat -> St) (k:Nat):(upS f k).length = k:=by simp [upS]
def matS (n:Nat):St:=(1,edgesE (-1) (upB (-1) (2 * n + 2)))
/-- The states: that of matches, two for each piece. -/
def statesL (ps:List (Int × Int)) (op:Nat):List St:=matS ps.length :: (upS (delS ps op) ps.length ++ upS (insS ps op) ps.length)
def StPost (l:List St) (w:World) (e:Ending) (w':World):Prop:=∃ ao n cap,e = .returned (.slice ao n cap) /\ n = l.length /\ StsOwn w' w.heap.size (.slice ao n cap) l /\ Below w.heap.size w w'
theorem edgesE_len (c:Int) (l:List Int):(edgesE c l).length = l.length:=by simp [edgesE]
theorem upB_get {z:Int} {n k:Nat} (h:k < n):(upB z n)[k]? = some (z + (k:Int)):=by simp [upB,h]
theorem states_calls (ps:List (Int × Int)) (pa:Option Addr) (n pc:Nat) (op:Nat) (w:World) (h:PcsAt w pa n ps) (hn:n <= 4) (hop:op <= 5000) :
 Calls Tryz.prog 35 #[.slice pa n pc,I J (op:Int)] w fun e w'=>StPost (statesL ps op) w e w':=by
 have HP:Hid (PcsAt w pa n ps):=h
 have HL:Hid (ps.length = n):=h.length
 clear h
 obtain ⟨i0,hi,hz0,hz1,hz2⟩:=info_parts info52
 go_enter Tryz.func35,Tryz.ntmps35
 go_wp2_with fail
 refine (upTo_calls 1 ((n:Int) + 1) n w (by omega) (by omega) (by omega)).mono ?_
 rintro e w1 ⟨xa,xc,rfl,hx,hb1⟩
 have HX:Hid (IntO w1 w.heap.size xa n (upB 1 n) /\ Below w.heap.size w w1):=⟨⟨upB_len _ _,by unfold maxLen; omega,xc,hx⟩,hb1⟩
 clear hx hb1
 go_wp2_with fail
 refine (upTo_calls ((n:Int) + 1) (2 * (n:Int) + 1) n w1 (by omega) (by omega) (by omega)).mono ?_
 rintro e w2 ⟨ia,ic,rfl,hx,hb2⟩
 have HX2:Hid (IntO w2 w.heap.size xa n (upB 1 n) /\ IntO w2 w.heap.size ia n (upB ((n:Int) + 1) n) /\ Below w.heap.size w w2):=⟨HX.out.1.below hb2,⟨upB_len _ _,by unfold maxLen; omega,ic,owned_base hx HX.out.2.size⟩,HX.out.2.trans (hb2.mono HX.out.2.size)⟩
 clear hx hb2 HX
 go_wp2_with fail
 refine (upTo_calls (-1) (2 * (n:Int) + 1) (2 * n + 2) w2 (by omega) (by omega) (by omega)).mono ?_
 rintro e w3 ⟨ma,mc,rfl,hx,hb3⟩
 have HX3:Hid (IntO w3 w.heap.size xa n (upB 1 n) /\ IntO w3 w.heap.size ia n (upB ((n:Int) + 1) n) /\ Below w.heap.size w w3 /\ IntA w3 ma (2 * n + 2) (upB (-1) (2 * n + 2))):=⟨HX2.out.1.below hb3,HX2.out.2.1.below hb3,HX2.out.2.2.trans (hb3.mono HX2.out.2.2.size),intA_own hx (upB_len _ _) (by unfold maxLen; omega)⟩
 clear hx hb3 HX2
 go_wp2_with fail
 refine (edges_calls (-1) (upB (-1) (2 * n + 2)) ma (2 * n + 2) mc w3 HX3.out.2.2.2 (by omega)).mono ?_
 rintro e w4 ⟨ea,ec,rfl,hx,hb4⟩
 have HX4:Hid (StsOwn (w4.alloc (.cells #[I J 1,.slice ea (2 * n + 2) ec] 42)) w.heap.size (.slice (some ⟨w4.heap.size,0,none⟩) 1 1) [matS n] /\ Below w.heap.size w (w4.alloc (.cells #[I J 1,.slice ea (2 * n + 2) ec] 42)) /\ IntO (w4.alloc (.cells #[I J 1,.slice ea (2 * n + 2) ec] 42)) w.heap.size xa n (upB 1 n) /\ IntO (w4.alloc (.cells #[I J 1,.slice ea (2 * n + 2) ec] 42)) w.heap.size ia n (upB ((n:Int) + 1) n)):=by
  have hb5:Below w4.heap.size w4 (w4.alloc (.cells #[I J 1,.slice ea (2 * n + 2) ec] 42)):=(Below.refl _ _).alloc (Nat.le_refl _) _
  have hl4:Below w.heap.size w w4:=HX3.out.2.2.1.trans (hb4.mono HX3.out.2.2.1.size)
  refine ⟨⟨[(1,ea,2 * n + 2,ec)],⟨by simp [srRow,srCells],.inr ⟨w4.heap.size,1,_,rfl,hl4.size,heap_alloc_new w4 _,Nat.le_refl _,by decide,rfl,rfl⟩⟩,?_⟩,hl4.trans (hb5.mono hl4.size),(HX3.out.1.below hb4).below hb5,(HX3.out.2.1.below hb4).below hb5⟩
  have:=(Own2.nil (w4.alloc (.cells #[I J 1,.slice ea (2 * n + 2) ec] 42)) w.heap.size).snoc (k:=1) (es:=edgesE (-1) (upB (-1) (2 * n + 2))) (a:=ea) (n:=2 * n + 2) (c:=ec) (by rw [edgesE_len,upB_len]) (by rw [edgesE_len,upB_len]; omega) (owned_base (owned_below hx hb5) HX3.out.2.2.1.size)
  exact this
 clear hx hb4 HX3
 go_wp2_with fail
 go_loopg [8,35] n (fun q sv iv wr=>∃ (k:Nat) (so:Option Addr) (sc:Nat),k + q = n /\ iv = I J k /\ sv = .slice so (1 + k) sc /\ Hid (StsOwn wr w.heap.size (.slice so (1 + k) sc) ([matS n] ++ upS (delS ps op) k) /\ True /\ Below w.heap.size w wr /\ IntO wr w.heap.size xa n (upB 1 n) /\ IntO wr w.heap.size ia n (upB ((n:Int) + 1) n)))
 case atStart=>exact ⟨0,_,1,by omega,rfl,rfl,HX4.out.1,trivial,HX4.out.2⟩
 case round=>
  clear HX4
  obtain ⟨k,so,sc,hkq,rfl,rfl,HT⟩:=hrel
  by_cases hlt:k < n
  ·obtain ⟨d,hdi⟩:∃ d,ps[k]? = some d:=⟨ps[k]'(by rw [HP.out.length]; exact hlt),List.getElem?_eq_getElem _⟩
   obtain ⟨pg,po,rfl,hcs⟩:=(HP.out.below HT.out.2.2.1).cells (by omega)
   obtain ⟨b0,b1⟩:=hcs k d hdi
   have HG:Hid ((ps.getD k (0,0)).2 = d.2):=by show (ps.getD k (0,0)).2 = d.2; rw [List.getD_eq_getElem?_getD,hdi]; rfl
   clear hcs hdi
   obtain ⟨o1,ext⟩:=d
   simp only at b0 b1 HG
   obtain ⟨wb,hwb⟩:∃ wb,wb = (wr.alloc (.cells #[I J o1,I J ext] 150)):=⟨_,rfl⟩
   have hbb:Below wr.heap.size wr wb:=by rw [hwb]; exact (Below.refl _ _).alloc (Nat.le_refl _) _
   have p1:wb.cell? ⟨wr.heap.size,1,none⟩ = some (I J ext):=by rw [hwb]; exact blk (heap_alloc_new wr _) rfl
   have HT2:Hid (StsOwn wb w.heap.size (.slice so (1 + k) sc) ([matS n] ++ upS (delS ps op) k) /\ Below w.heap.size w wb /\ IntO wb w.heap.size xa n (upB 1 n) /\ IntO wb w.heap.size ia n (upB ((n:Int) + 1) n)):=⟨HT.out.1.below hbb,HT.out.2.2.1.trans (hbb.mono HT.out.2.2.1.size),HT.out.2.2.2.1.below hbb,HT.out.2.2.2.2.below hbb⟩
   clear HT hbb
   obtain ⟨dg,df,hde,hdc⟩:=(HT2.out.2.2.1).at.isI k _ (upB_get hlt)
   subst hde
   go_upto_region 7 with (fail)
   rw [<- hwb]
   generalize wr.heap.size = pb at *
   clear hwb
   have hJ1:Below wb.heap.size wb wb.drew:=(Below.refl _ _).drew
   have HK:Hid (∀ W,Below wb.heap.size wb W -> W.cell? ⟨pb,1,none⟩ = some (I J ext) /\ W.cell? ⟨dg,df + k,none⟩ = some (I J (1 + (k:Int)))):=fun W hW=>⟨keepc hW p1,keepc hW hdc⟩
   have y:=HK.out _ hJ1
   have HC:Hid (∀ W cost l po m c,IntA W po m l -> m <= 100 -> Calls Tryz.prog 65 #[I J cost,.slice po m c] W fun e w'=>RowPost 44 2 m (pcRow (edgesE cost l)) W e w'):=fun W cost l po m c h1 h2=>edges_calls cost l po m c W h1 h2
   go_cut [11] (fun v wc=>∃ eo en ec,v = .slice eo en ec /\ en = 2 + 1 + n /\ wc.ownsRow w.heap.size 44 2 (.slice eo en ec) en (pcRow (delS ps op k).2) /\ Below wb.heap.size wb wc)
   case first=>
    have HW:Hid (IntKind.i64.wrap ((op:Int) + (k:Int)) = ((op + k:Nat):Int)):=by show IntKind.i64.wrap ((op:Int) + (k:Int)) = _; rw [IntKind.wrap_i64]; omega
    have HBA:Hid (∀ W o,Below wb.heap.size wb W -> Below wb.heap.size wb (W.alloc o)):=fun W o h=>h.alloc h.size o
    have HBD1:Hid (∀ o,Below wb.heap.size wb (wb.alloc o).drew):=fun o=>((Below.refl _ _).alloc (Nat.le_refl _) o).drew
    have HBD2:Hid (∀ o o',Below wb.heap.size wb ((wb.alloc o).alloc o').drew):=fun o o'=>(((Below.refl _ _).alloc (Nat.le_refl _) o).alloc (by simp) o').drew
    have HBT:Hid (∀ W V,Below wb.heap.size wb W -> Below W.heap.size W V -> Below wb.heap.size wb V):=fun W V h1 h2=>h1.trans (h2.mono h1.size)
    have HI3:Hid (∀ W,Below wb.heap.size wb W -> IntA W ia n (upB ((n:Int) + 1) n)):=fun W hW=>(HT2.out.2.2.2.below hW).at
    have HNO:Hid (∀ (V:World) (eo:Option Addr) (m c:Nat),m = 2 + 1 + n -> V.ownsRow wb.heap.size 44 2 (.slice eo m c) m (pcRow ((edgesE (((op + k:Nat):Int)) [-1,0]) ++ (edgesE ext [(1 + (k:Int))]) ++ (edgesE (((op + k:Nat):Int)) (upB ((n:Int) + 1) n)))) -> V.ownsRow w.heap.size 44 2 (.slice eo m c) m (pcRow (delS ps op k).2)):=fun V eo m c hm ho=>by
     have he:(delS ps op k).2 = ((edgesE (((op + k:Nat):Int)) [-1,0]) ++ (edgesE ext [(1 + (k:Int))]) ++ (edgesE (((op + k:Nat):Int)) (upB ((n:Int) + 1) n))):=by unfold delS; rw [HG.out,HL.out]
     rw [he]
     exact owned_base ho HT2.out.2.1.size
    go_region_held3 (fun W=>Below wb.heap.size wb W /\ W.cell? ⟨pb,1,none⟩ = some (I J ext) /\ W.cell? ⟨dg,df + k,none⟩ = some (I J (1 + (k:Int)))) (first | exact ⟨hJ1,y⟩ | exact ⟨by assumption,HK.out _ (by assumption)⟩ | exact ⟨HBA.out _ _ (by assumption),HK.out _ (HBA.out _ _ (by assumption))⟩ | exact ⟨HBD1.out _,HK.out _ (HBD1.out _)⟩ | exact ⟨HBD2.out _ _,HK.out _ (HBD2.out _ _)⟩) (first
     | (go_at_call 65; (with_reducible refine (HC.out _ _ [-1,0] _ 2 _ (by first | exact (two_intA _ _ _ _ (by simp)).below (Below.refl _ _).drew | exact ((two_intA _ _ _ _ (by simp)).below ((Below.refl _ _).alloc (Nat.le_refl _) _)).below (Below.refl _ _).drew) (by omega)).mono ?_); rintro e V1 ⟨ea1,ec1,rfl,ho1,hv1⟩; have hB1:=HBT.out _ _ (by first | assumption | exact HBD1.out _ | exact HBD2.out _ _ | exact HBA.out _ _ (by assumption)) hv1; have hk1:=HK.out _ hB1)
     | (go_at_call 65; (with_reducible refine (HC.out _ _ [(1 + (k:Int))] _ 1 _ (by first | exact one_intA _ _ _ (by simp) | exact ((one_intA _ _ _ (by simp)).below (Below.refl _ _).drew).below hv1 | exact (((one_intA _ _ _ (by simp)).below ((Below.refl _ _).alloc (Nat.le_refl _) _)).below (Below.refl _ _).drew).below hv1) (by omega)).mono ?_); rintro e V2 ⟨ea2,ec2,rfl,ho2,hv2⟩; have hB2:=HBT.out _ _ (by first | assumption | exact HBD1.out _ | exact HBD2.out _ _ | exact HBA.out _ _ (by assumption)) hv2; have hk2:=HK.out _ hB2)
     | (go_at_call 65; (with_reducible refine (HC.out _ _ (upB ((n:Int) + 1) n) _ n _ (HI3.out _ (by assumption)) (by omega)).mono ?_); rintro e V3 ⟨ea3,ec3,rfl,ho3,hv3⟩; have hB3:=HBT.out _ _ (by first | assumption | exact HBD1.out _ | exact HBD2.out _ _ | exact HBA.out _ _ (by assumption)) hv3; have hk3:=HK.out _ hB3)
     | (go_at_call 66; (with_reducible refine (concat3_calls _ (by first | exact owned_below (owned_below ho1 hv2) hv3 | exact owned_below (owned_below (owned_below ho1 ((Below.refl _ _).alloc (Nat.le_refl _) _)) hv2) hv3) (owned_below ho2 hv3) ho3 (by omega) _ (by first | rfl | simp)).mono ?_); rintro e V4 ⟨eo,ec,rfl,ho4,hv4⟩; have hB4:=HBT.out _ _ (HBA.out _ _ hB3) hv4; have hk4:=HK.out _ hB4))
    all_goals (go_wp2_with fail; go_meet; exact ⟨eo,2 + 1 + n,ec,rfl,rfl,HNO.out V4 eo _ ec rfl (by rw [HW.out] at ho4; exact owned_base ho4 (HBA.out _ _ hB3).size),hB4⟩)
   case rest=>
    obtain ⟨eo,en,ec,rfl,hen,ho,hbc⟩:=hcut
    have HT3:Hid (StsOwn wc w.heap.size (.slice so (1 + k) sc) ([matS n] ++ upS (delS ps op) k) /\ Below w.heap.size w wc /\ IntO wc w.heap.size (some ⟨dg,df,none⟩) n (upB 1 n) /\ IntO wc w.heap.size ia n (upB ((n:Int) + 1) n) /\ wc.ownsRow w.heap.size 44 2 (.slice eo en ec) en (pcRow (delS ps op k).2)):=⟨HT2.out.1.below hbc,HT2.out.2.1.trans (hbc.mono HT2.out.2.1.size),HT2.out.2.2.1.below hbc,HT2.out.2.2.2.below hbc,ho⟩
    have HEN:Hid (en = (delS ps op k).2.length /\ (delS ps op k).2.length <= 100):=by
     have hl:(delS ps op k).2.length = 2 + 1 + n:=by unfold delS; simp [edgesE_len,upB_len,HL.out] <;> omega
     exact ⟨by rw [hl]; exact hen,by rw [hl]; omega⟩
    clear hbc ho HT2 HK y hJ1 p1 hdc b0 b1 HC hen
    obtain ⟨sl,hs1,hs2⟩:=HT3.out.1.rows
    have hlen:([matS n] ++ upS (delS ps op) k).length = 1 + k:=by simp [upS_len] <;> omega
    rw [hlen] at hs1
    have HS1:Hid ((wc.alloc (.cells #[I J 2,.slice eo en ec] 42)).ownsRow w.heap.size 42 2 (.slice so (1 + k) sc) (1 + k) (srRow sl) /\ Own2 (wc.alloc (.cells #[I J 2,.slice eo en ec] 42)) w.heap.size (sl ++ [(2,eo,en,ec)]) (([matS n] ++ upS (delS ps op) k) ++ [delS ps op k]) /\ Below w.heap.size w (wc.alloc (.cells #[I J 2,.slice eo en ec] 42)) /\ IntO (wc.alloc (.cells #[I J 2,.slice eo en ec] 42)) w.heap.size (some ⟨dg,df,none⟩) n (upB 1 n) /\ IntO (wc.alloc (.cells #[I J 2,.slice eo en ec] 42)) w.heap.size ia n (upB ((n:Int) + 1) n)):=by
     have hb5:Below wc.heap.size wc (wc.alloc (.cells #[I J 2,.slice eo en ec] 42)):=(Below.refl _ _).alloc (Nat.le_refl _) _
     exact ⟨owned_below hs1 hb5,(hs2.below hb5).snoc HEN.out.1 HEN.out.2 (owned_below HT3.out.2.2.2.2 hb5),HT3.out.2.1.trans (hb5.mono HT3.out.2.1.size),HT3.out.2.2.1.below hb5,HT3.out.2.2.2.1.below hb5⟩
    clear HT3 hs1 hs2 hlen
    go_wp2_with (at_builtin; refine wpList_append_own _ rfl _ _ 24 rfl w.heap.size 42 i0 _ 2 32 Tryz.underlying24 hi hz0 hz1 hz2 rfl (by decide) (.slice so (1 + k) sc) (1 + k) (srRow sl) rfl HS1.out.1 ⟨wc.heap.size,0,none⟩ 1 1 (srCells (2,eo,en,ec)) rfl rfl (sr_new wc 2 eo en ec) (sr_one _) (by unfold maxLen; omega) (by omega) HS1.out.2.2.1.size ?_)
    intro v' w5 ho hg _
    obtain ⟨ao5,c5,rfl⟩:=owned_shape ho
    have HN:Hid (StsOwn w5 w.heap.size (.slice ao5 (1 + (k + 1)) c5) ([matS n] ++ upS (delS ps op) (k + 1)) /\ True /\ Below w.heap.size w w5 /\ IntO w5 w.heap.size (some ⟨dg,df,none⟩) n (upB 1 n) /\ IntO w5 w.heap.size ia n (upB ((n:Int) + 1) n)):=by
     have hg2:=HS1.out.2.2.1.grown hg HS1.out.2.2.1.size (owned_from HS1.out.1)
     refine ⟨⟨sl ++ [(2,eo,en,ec)],?_,?_⟩,trivial,hg2,HS1.out.2.2.2.1.grown HS1.out.1 hg,HS1.out.2.2.2.2.grown HS1.out.1 hg⟩
     ·rw [srRow_snoc,show ([matS n] ++ upS (delS ps op) (k + 1)).length = 1 + k + 1 by simp [upS_len] <;> omega]
      exact ho
     ·rw [upS_snoc,<- List.append_assoc]
      exact HS1.out.2.1.grown HS1.out.1 hg
    clear ho hg HS1 HEN
    go_wp2_with fail
    go_roundg (gk - 1)
    case measure=>omega
    case rel=>exact ⟨k + 1,ao5,c5,by omega,by go_num,by first | rfl | (simp; omega),HN.out⟩
  ·have hkn:n = k:=by omega
   subst hkn
   have HX5:Hid (StsOwn wr w.heap.size (.slice so (1 + n) sc) (matS n :: upS (delS ps op) n) /\ True /\ Below w.heap.size w wr /\ IntO wr w.heap.size xa n (upB 1 n) /\ IntO wr w.heap.size ia n (upB ((n:Int) + 1) n)):=HT.out
   clear HT
   go_wp2_with fail
   obtain ⟨so0,sc0,hso,hsc⟩:∃ so0 sc0,so0 = so /\ sc0 = sc:=⟨_,_,rfl,rfl⟩
   subst hso; subst hsc
   go_loopg [8,68] n (fun q sv iv wr=>∃ (k:Nat) (so:Option Addr) (sc:Nat),k + q = n /\ iv = I J k /\ sv = .slice so (1 + n + k) sc /\ Hid (StsOwn wr w.heap.size (.slice so (1 + n + k) sc) ((matS n :: upS (delS ps op) n) ++ upS (insS ps op) k) /\ True /\ Below w.heap.size w wr /\ IntO wr w.heap.size xa n (upB 1 n) /\ IntO wr w.heap.size ia n (upB ((n:Int) + 1) n)))
   case atStart=>exact ⟨0,so0,sc0,by omega,rfl,rfl,by have:=HX5.out; rw [show upS (insS ps op) 0 = [] from rfl,List.append_nil]; exact this⟩
   case round=>
    clear HX5
    obtain ⟨k,so,sc,hkq,rfl,rfl,HT⟩:=hrel
    by_cases hlt:k < n
    ·obtain ⟨d,hdi⟩:∃ d,ps[k]? = some d:=⟨ps[k]'(by rw [HP.out.length]; exact hlt),List.getElem?_eq_getElem _⟩
     obtain ⟨pg,po,rfl,hcs⟩:=(HP.out.below HT.out.2.2.1).cells (by omega)
     obtain ⟨b0,b1⟩:=hcs k d hdi
     have HG:Hid ((ps.getD k (0,0)).2 = d.2):=by show (ps.getD k (0,0)).2 = d.2; rw [List.getD_eq_getElem?_getD,hdi]; rfl
     clear hcs hdi
     obtain ⟨o1,ext⟩:=d
     simp only at b0 b1 HG
     obtain ⟨wb,hwb⟩:∃ wb,wb = (wr.alloc (.cells #[I J o1,I J ext] 150)):=⟨_,rfl⟩
     have hbb:Below wr.heap.size wr wb:=by rw [hwb]; exact (Below.refl _ _).alloc (Nat.le_refl _) _
     have p1:wb.cell? ⟨wr.heap.size,1,none⟩ = some (I J ext):=by rw [hwb]; exact blk (heap_alloc_new wr _) rfl
     have HT2:Hid (StsOwn wb w.heap.size (.slice so ((1 + n) + k) sc) ((matS n :: upS (delS ps op) n) ++ upS (insS ps op) k) /\ Below w.heap.size w wb /\ IntO wb w.heap.size xa n (upB 1 n) /\ IntO wb w.heap.size ia n (upB ((n:Int) + 1) n)):=⟨HT.out.1.below hbb,HT.out.2.2.1.trans (hbb.mono HT.out.2.2.1.size),HT.out.2.2.2.1.below hbb,HT.out.2.2.2.2.below hbb⟩
     clear HT hbb
     obtain ⟨dg,df,hde,hdc⟩:=(HT2.out.2.2.2).at.isI k _ (upB_get hlt)
     subst hde
     go_upto_region 13 with (fail)
     rw [<- hwb]
     generalize wr.heap.size = pb at *
     clear hwb
     have hJ1:Below wb.heap.size wb wb.drew:=(Below.refl _ _).drew
     have HK:Hid (∀ W,Below wb.heap.size wb W -> W.cell? ⟨pb,1,none⟩ = some (I J ext) /\ W.cell? ⟨dg,df + k,none⟩ = some (I J (((n:Int) + 1) + (k:Int)))):=fun W hW=>⟨keepc hW p1,keepc hW hdc⟩
     have y:=HK.out _ hJ1
     have HC:Hid (∀ W cost l po m c,IntA W po m l -> m <= 100 -> Calls Tryz.prog 65 #[I J cost,.slice po m c] W fun e w'=>RowPost 44 2 m (pcRow (edgesE cost l)) W e w'):=fun W cost l po m c h1 h2=>edges_calls cost l po m c W h1 h2
     go_cut [14] (fun v wc=>∃ eo en ec,v = .slice eo en ec /\ en = 2 + n + 1 /\ wc.ownsRow w.heap.size 44 2 (.slice eo en ec) en (pcRow (insS ps op k).2) /\ Below wb.heap.size wb wc)
     case first=>
      have HW:Hid (IntKind.i64.wrap ((op:Int) + (k:Int)) = ((op + k:Nat):Int)):=by show IntKind.i64.wrap ((op:Int) + (k:Int)) = _; rw [IntKind.wrap_i64]; omega
      have HBA:Hid (∀ W o,Below wb.heap.size wb W -> Below wb.heap.size wb (W.alloc o)):=fun W o h=>h.alloc h.size o
      have HBD1:Hid (∀ o,Below wb.heap.size wb (wb.alloc o).drew):=fun o=>((Below.refl _ _).alloc (Nat.le_refl _) o).drew
      have HBD2:Hid (∀ o o',Below wb.heap.size wb ((wb.alloc o).alloc o').drew):=fun o o'=>(((Below.refl _ _).alloc (Nat.le_refl _) o).alloc (by simp) o').drew
      have HBT:Hid (∀ W V,Below wb.heap.size wb W -> Below W.heap.size W V -> Below wb.heap.size wb V):=fun W V h1 h2=>h1.trans (h2.mono h1.size)
      have HI3:Hid (∀ W,Below wb.heap.size wb W -> IntA W xa n (upB 1 n)):=fun W hW=>(HT2.out.2.2.1.below hW).at
      have HNO:Hid (∀ (V:World) (eo:Option Addr) (m c:Nat),m = 2 + n + 1 -> V.ownsRow wb.heap.size 44 2 (.slice eo m c) m (pcRow ((edgesE (((op + k:Nat):Int)) [-1,0]) ++ (edgesE (((op + k:Nat):Int)) (upB 1 n)) ++ (edgesE ext [((n:Int) + 1 + (k:Int))]))) -> V.ownsRow w.heap.size 44 2 (.slice eo m c) m (pcRow (insS ps op k).2)):=fun V eo m c hm ho=>by
       have he:(insS ps op k).2 = ((edgesE (((op + k:Nat):Int)) [-1,0]) ++ (edgesE (((op + k:Nat):Int)) (upB 1 n)) ++ (edgesE ext [((n:Int) + 1 + (k:Int))])):=by unfold insS; rw [HG.out,HL.out]
       rw [he]
       exact owned_base ho HT2.out.2.1.size
      go_region_held3 (fun W=>Below wb.heap.size wb W /\ W.cell? ⟨pb,1,none⟩ = some (I J ext) /\ W.cell? ⟨dg,df + k,none⟩ = some (I J (((n:Int) + 1) + (k:Int)))) (first | exact ⟨hJ1,y⟩ | exact ⟨by assumption,HK.out _ (by assumption)⟩ | exact ⟨HBA.out _ _ (by assumption),HK.out _ (HBA.out _ _ (by assumption))⟩ | exact ⟨HBD1.out _,HK.out _ (HBD1.out _)⟩ | exact ⟨HBD2.out _ _,HK.out _ (HBD2.out _ _)⟩) (first
       | (go_at_call 65; (with_reducible refine (HC.out _ _ [-1,0] _ 2 _ (by first | exact (two_intA _ _ _ _ (by simp)).below (Below.refl _ _).drew | exact ((two_intA _ _ _ _ (by simp)).below ((Below.refl _ _).alloc (Nat.le_refl _) _)).below (Below.refl _ _).drew) (by omega)).mono ?_); rintro e V1 ⟨ea1,ec1,rfl,ho1,hv1⟩; have hB1:=HBT.out _ _ (by first | assumption | exact HBD1.out _ | exact HBD2.out _ _ | exact HBA.out _ _ (by assumption)) hv1; have hk1:=HK.out _ hB1)
       | (go_at_call 65; (with_reducible refine (HC.out _ _ (upB 1 n) _ n _ (HI3.out _ (by first | assumption | exact HBD1.out _ | exact HBD2.out _ _ | exact HBA.out _ _ (by assumption))) (by omega)).mono ?_); rintro e V2 ⟨ea2,ec2,rfl,ho2,hv2⟩; have hB2:=HBT.out _ _ (by first | assumption | exact HBD1.out _ | exact HBD2.out _ _ | exact HBA.out _ _ (by assumption)) hv2; have hk2:=HK.out _ hB2)
       | (go_at_call 65; (with_reducible refine (HC.out _ _ [((n:Int) + 1 + (k:Int))] _ 1 _ (by first | exact one_intA _ _ _ (by simp) | exact (one_intA _ _ _ (by simp)).below hv2 | exact (((one_intA _ _ _ (by simp)).below (Below.refl _ _).drew).below hv1).below hv2 | exact ((((one_intA _ _ _ (by simp)).below ((Below.refl _ _).alloc (Nat.le_refl _) _)).below (Below.refl _ _).drew).below hv1).below hv2) (by omega)).mono ?_); rintro e V3 ⟨ea3,ec3,rfl,ho3,hv3⟩; have hB3:=HBT.out _ _ (by first | assumption | exact HBD1.out _ | exact HBD2.out _ _ | exact HBA.out _ _ (by assumption)) hv3; have hk3:=HK.out _ hB3)
       | (go_at_call 66; (with_reducible refine (concat3_calls _ (by first | exact owned_below (owned_below ho1 hv2) hv3 | exact owned_below (owned_below (owned_below ho1 ((Below.refl _ _).alloc (Nat.le_refl _) _)) hv2) hv3 | exact owned_below (owned_below (owned_below ho1 hv2) ((Below.refl _ _).alloc (Nat.le_refl _) _)) hv3) (by first | exact owned_below ho2 hv3 | exact owned_below (owned_below ho2 ((Below.refl _ _).alloc (Nat.le_refl _) _)) hv3) ho3 (by omega) _ (by first | rfl | simp)).mono ?_); rintro e V4 ⟨eo,ec,rfl,ho4,hv4⟩; have hB4:=HBT.out _ _ (HBA.out _ _ hB3) hv4; have hk4:=HK.out _ hB4))
      all_goals (go_wp2_with fail; go_meet; exact ⟨eo,2 + n + 1,ec,rfl,rfl,HNO.out V4 eo _ ec rfl (by rw [HW.out] at ho4; exact owned_base ho4 (HBA.out _ _ hB3).size),hB4⟩)
     case rest=>
      obtain ⟨eo,en,ec,rfl,hen,ho,hbc⟩:=hcut
      have HT3:Hid (StsOwn wc w.heap.size (.slice so ((1 + n) + k) sc) ((matS n :: upS (delS ps op) n) ++ upS (insS ps op) k) /\ Below w.heap.size w wc /\ IntO wc w.heap.size xa n (upB 1 n) /\ IntO wc w.heap.size (some ⟨dg,df,none⟩) n (upB ((n:Int) + 1) n) /\ wc.ownsRow w.heap.size 44 2 (.slice eo en ec) en (pcRow (insS ps op k).2)):=⟨HT2.out.1.below hbc,HT2.out.2.1.trans (hbc.mono HT2.out.2.1.size),HT2.out.2.2.1.below hbc,HT2.out.2.2.2.below hbc,ho⟩
      have HEN:Hid (en = (insS ps op k).2.length /\ (insS ps op k).2.length <= 100):=by
       have hl:(insS ps op k).2.length = 2 + n + 1:=by unfold insS; simp [edgesE_len,upB_len,HL.out] <;> omega
       exact ⟨by rw [hl]; exact hen,by rw [hl]; omega⟩
      clear hbc ho HT2 HK y hJ1 p1 hdc b0 b1 HC hen
      obtain ⟨sl,hs1,hs2⟩:=HT3.out.1.rows
      have hlen:((matS n :: upS (delS ps op) n) ++ upS (insS ps op) k).length = (1 + n) + k:=by simp [upS_len] <;> omega
      rw [hlen] at hs1
      have HS1:Hid ((wc.alloc (.cells #[I J 3,.slice eo en ec] 42)).ownsRow w.heap.size 42 2 (.slice so ((1 + n) + k) sc) ((1 + n) + k) (srRow sl) /\ Own2 (wc.alloc (.cells #[I J 3,.slice eo en ec] 42)) w.heap.size (sl ++ [(3,eo,en,ec)]) (((matS n :: upS (delS ps op) n) ++ upS (insS ps op) k) ++ [insS ps op k]) /\ Below w.heap.size w (wc.alloc (.cells #[I J 3,.slice eo en ec] 42)) /\ IntO (wc.alloc (.cells #[I J 3,.slice eo en ec] 42)) w.heap.size xa n (upB 1 n) /\ IntO (wc.alloc (.cells #[I J 3,.slice eo en ec] 42)) w.heap.size (some ⟨dg,df,none⟩) n (upB ((n:Int) + 1) n)):=by
       have hb5:Below wc.heap.size wc (wc.alloc (.cells #[I J 3,.slice eo en ec] 42)):=(Below.refl _ _).alloc (Nat.le_refl _) _
       exact ⟨owned_below hs1 hb5,(hs2.below hb5).snoc HEN.out.1 HEN.out.2 (owned_below HT3.out.2.2.2.2 hb5),HT3.out.2.1.trans (hb5.mono HT3.out.2.1.size),HT3.out.2.2.1.below hb5,HT3.out.2.2.2.1.below hb5⟩
      clear HT3 hs1 hs2 hlen
      go_wp2_with (at_builtin; refine wpList_append_own _ rfl _ _ 24 rfl w.heap.size 42 i0 _ 2 32 Tryz.underlying24 hi hz0 hz1 hz2 rfl (by decide) (.slice so ((1 + n) + k) sc) ((1 + n) + k) (srRow sl) rfl HS1.out.1 ⟨wc.heap.size,0,none⟩ 1 1 (srCells (3,eo,en,ec)) rfl rfl (sr_new wc 3 eo en ec) (sr_one _) (by unfold maxLen; omega) (by omega) HS1.out.2.2.1.size ?_)
      intro v' w5 ho hg _
      obtain ⟨ao5,c5,rfl⟩:=owned_shape ho
      have HN:Hid (StsOwn w5 w.heap.size (.slice ao5 ((1 + n) + (k + 1)) c5) ((matS n :: upS (delS ps op) n) ++ upS (insS ps op) (k + 1)) /\ True /\ Below w.heap.size w w5 /\ IntO w5 w.heap.size xa n (upB 1 n) /\ IntO w5 w.heap.size (some ⟨dg,df,none⟩) n (upB ((n:Int) + 1) n)):=by
       have hg2:=HS1.out.2.2.1.grown hg HS1.out.2.2.1.size (owned_from HS1.out.1)
       refine ⟨⟨sl ++ [(3,eo,en,ec)],?_,?_⟩,trivial,hg2,HS1.out.2.2.2.1.grown HS1.out.1 hg,HS1.out.2.2.2.2.grown HS1.out.1 hg⟩
       ·rw [srRow_snoc,show ((matS n :: upS (delS ps op) n) ++ upS (insS ps op) (k + 1)).length = (1 + n) + k + 1 by simp [upS_len] <;> omega]
        exact ho
       ·rw [upS_snoc,<- List.append_assoc]
        exact HS1.out.2.1.grown HS1.out.1 hg
      clear ho hg HS1 HEN
      go_wp2_with fail
      go_roundg (gk - 1)
      case measure=>omega
      case rel=>exact ⟨k + 1,ao5,c5,by omega,by go_num,by first | rfl | (simp; omega),HN.out⟩
    ·have hkn:n = k:=by omega
     subst hkn
     have HY:Hid (StsOwn wr w.heap.size (.slice so (1 + n + n) sc) (statesL ps op) /\ Below w.heap.size w wr):=by
      refine ⟨?_,HT.out.2.2.1⟩
      unfold statesL
      rw [HL.out]
      exact HT.out.1
     have HE:Hid (1 + n + n = (statesL ps op).length):=by
      show 1 + n + n = _
      unfold statesL
      rw [HL.out]
      simp [upS_len]
      omega
     clear HT
     go_wp2
     go_ret
     exact ⟨so,1 + n + n,sc,rfl,HE.out,HY.out⟩end Go.Proofs.YtbbbnopganhebabGreat
