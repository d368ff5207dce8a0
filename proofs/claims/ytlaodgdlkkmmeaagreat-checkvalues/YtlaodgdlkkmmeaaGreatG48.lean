/-
  The document's Values. A scheme of Check for Numbers; what the two sources of the chapter say. The chapter's two sources, run.
-/
import Derived.Test.YtlaodgdlkkmmeaaGreatG47
import Derived.Test.YtlaodgdlkkmmeaaGreatG44
import Derived.Test.YtlaodgdlkkmmeaaGreatG24
import Derived.Test.YtlaodgdlkkmmeaaGreatG46
namespace Go.Proofs.YtlaodgdlkkmmeaaGreat
open Go.RowKit Go.Deep Go.Maps
open Go.Value renaming int->I,slice->Γ
open Go.IntKind renaming i64->J
open Go.Obj renaming cells->Δ
set_option maxRecDepth 20000
set_option maxHeartbeats 1000000
theorem defB_two {op num a b:Int} {n:Nat} (vs:List Int) (h:defB ⟨op,num,a,b⟩ n = true) (h1:op ≠ 1):2 <= op /\ op <= 7 /\ num = 0 /\ (∃ i:Nat,a = i /\ i < n) /\ (∃ j:Nat,b = j /\ j < n) /\ rawB vs ⟨op,num,a,b⟩ = madeR op (vAt vs a) (vAt vs b):=by
 have hr:2 <= op -> op <= 7 -> rawB vs ⟨op,num,a,b⟩ = madeR op (vAt vs a) (vAt vs b):=by
  intro h2 h7
  have:op = 2 \/ op = 3 \/ op = 4 \/ op = 5 \/ op = 6 \/ op = 7:=by omega
  rcases this with rfl | rfl | rfl | rfl | rfl | rfl <;> rfl
 have nt:∀ x:Int,0 <= x -> x < n -> ∃ i:Nat,x = i /\ i < n:=fun x h0 hn=>⟨x.toNat,by omega,by omega⟩
 unfold defB at h
 simp only at h
 rw [if_neg h1] at h
 split at h
 ·simp only [Bool.and_eq_true,aheadB,decide_eq_true_eq] at h
  exact ⟨by omega,by omega,h.1,nt _ h.2.1.1 h.2.1.2,nt _ (by omega) (by omega),hr (by omega) (by omega)⟩
 ·split at h
  ·simp only [Bool.and_eq_true,aheadB,decide_eq_true_eq] at h
   exact ⟨by omega,by omega,h.1,nt _ h.2.1.1 h.2.1.2,nt _ h.2.2.1 h.2.2.2,hr (by omega) (by omega)⟩
  ·cases h
theorem refvalues_calls (l:List Df) (ao:Option Addr) (n cc:Nat) (w:World) (h:DfsAt w ao n l) :
 Calls Tryz.prog 16 #[Γ ao n cc] w fun e w'=>ValPost (valsB l) w e w':=by
 have hns:=h.short
 unfold maxLen at hns
 have hlen:=h.length
 by_cases hbig:5004 < n
 ·have HX:Hid (valsB l = ([],2)):=by show valsB l = _; unfold valsB; rw [if_pos (by omega)]
  clear h hlen
  go_enter Tryz.func16,Tryz.ntmps16
  go_wp2
  go_ret2
  show ValPost _ _ _ _
  rw [HX.out]
  exact ⟨none,0,rfl,none_row _ _ _ _,Below.refl _ _⟩
 ·have hd:decide ((5004:Int) < (n:Int)) = false:=by simp; omega
  obtain ⟨R,hR⟩:∃ R,valF l [] = R:=⟨_,rfl⟩
  have HX:Hid (valsB l = valE R):=by show valsB l = _; rw [valsB_eq (by omega),hR]
  have HR:Hid (valF (l.drop 0) [] = R):=by rw [List.drop_zero]; exact hR
  have HD:Hid (DfsAt w ao n l):=h
  clear hR h hlen
  obtain ⟨i0,hi,hz0,hz1,hz2⟩:=info_parts info3
  go_enter Tryz.func16,Tryz.ntmps16
  go_wp2_with fail
  go_loopg [5,4] n (fun k iv kv wr=>∃ (vs:List Int) (vo:Option Addr) (vc i:Nat),iv = I J (i:Int) /\ kv = Γ vo i vc /\ i + k = n /\ Hid (valF (l.drop i) vs = R /\ vs.length = i /\ (∀ v ∈ vs,-144115188075855872 <= v /\ v <= 144115188075855872) /\ wr.ownsRow w.heap.size 3 1 (Γ vo i vc) i (itRow vs) /\ Below w.heap.size w wr))
  case atStart=>exact ⟨[],none,0,0,rfl,rfl,by omega,HR.out,rfl,fun v hv=>by simp at hv,none_row _ _ _ _,Below.refl _ _⟩
  case round=>
   clear HR
   obtain ⟨vs,vo,vc,i,rfl,rfl,hik,HT⟩:=hrel
   by_cases hin:i < n
   ·obtain ⟨d,hdi⟩:∃ d,l[i]? = some d:=⟨l[i]'(by rw [HD.out.length]; exact hin),List.getElem?_eq_getElem _⟩
    obtain ⟨g,off,hao,hcs⟩:=HD.out.cells (by omega)
    subst hao
    obtain ⟨b0,b1,b2,b3⟩:=hcs i d hdi
    obtain ⟨t1,t2,t3,t4,t5⟩:=HT.out
    rw [dropD hdi] at t1
    have HDr:Hid (l.drop i = d :: l.drop (i + 1)):=dropD hdi
    have hC1:=mayDef_calls d (i:Int) (wr.alloc (Δ #[I J d.op,I J d.num,I J d.a,I J d.b] 43))
    unfold dfV at hC1
    obtain ⟨op,num,a,b⟩:=d
    simp only at hC1 b0 b1 b2 b3
    have x0:wr.cell? ⟨g,off + i * 4,none⟩ = some (I J op):=by rw [t5.cell (World.block_lt_of_cell? w _ b0)]; exact b0
    have x1:wr.cell? ⟨g,off + i * 4 + 1,none⟩ = some (I J num):=by rw [t5.cell (World.block_lt_of_cell? w _ b1)]; exact b1
    have x2:wr.cell? ⟨g,off + i * 4 + 2,none⟩ = some (I J a):=by rw [t5.cell (World.block_lt_of_cell? w _ b2)]; exact b2
    have x3:wr.cell? ⟨g,off + i * 4 + 3,none⟩ = some (I J b):=by rw [t5.cell (World.block_lt_of_cell? w _ b3)]; exact b3
    clear hcs b0 b1 b2 b3 hdi
    cases hdb:defB ⟨op,num,a,b⟩ i with
    | false=>
      have HY:Hid (R = .error 1):=by rw [<- t1]; exact valF_bad (by rw [t2]; exact hdb)
      rw [hdb] at hC1
      have HC1:=hid hC1
      have HB:Hid (Below w.heap.size w wr):=t5
      clear hC1 hdb t1 t2 t3 t4 t5 HT
      go_wp2_with fail
      refine (HC1.out).mono ?_
      rintro e w3 ⟨rfl,hb3⟩
      have HB3:Hid (Below w.heap.size w w3):=HB.out.trans ((below_box' hb3).mono HB.out.size)
      clear hb3
      go_wp2
      go_ret2
      show ValPost _ _ _ _
      rw [HX.out,HY.out]
      exact ⟨none,0,rfl,none_row _ _ _ _,HB3.out⟩
    | true=>
      rw [hdb] at hC1
      have HC1:=hid hC1
      have HDB:Hid (defB ⟨op,num,a,b⟩ vs.length = true):=by rw [t2]; exact hdb
      clear hC1 hdb t1 t2 t3 t4 t5
      go_wp2_with fail
      refine (HC1.out).mono ?_
      rintro e w3 ⟨rfl,hb3⟩
      have hB3:=below_box' hb3
      have y0:w3.cell? ⟨wr.heap.size,0,none⟩ = some (I J op):=by rw [hb3.cell (by simp)]; exact blk (heap_alloc_new wr _) rfl
      have y1:w3.cell? ⟨wr.heap.size,1,none⟩ = some (I J num):=by rw [hb3.cell (by simp)]; exact blk (heap_alloc_new wr _) rfl
      have y2:w3.cell? ⟨wr.heap.size,2,none⟩ = some (I J a):=by rw [hb3.cell (by simp)]; exact blk (heap_alloc_new wr _) rfl
      have y3:w3.cell? ⟨wr.heap.size,3,none⟩ = some (I J b):=by rw [hb3.cell (by simp)]; exact blk (heap_alloc_new wr _) rfl
      have HT3:Hid (valF (⟨op,num,a,b⟩ :: l.drop (i + 1)) vs = R /\ vs.length = i /\ (∀ v ∈ vs,-144115188075855872 <= v /\ v <= 144115188075855872) /\ w3.ownsRow w.heap.size 3 1 (Γ vo i vc) i (itRow vs) /\ Below w.heap.size w w3):=by
       obtain ⟨t1,t2,t3,t4,t5⟩:=HT.out
       rw [HDr.out] at t1
       exact ⟨t1,t2,t3,owned_below t4 hB3,t5.trans (hB3.mono t5.size)⟩
      clear hb3 hB3 HT HC1 x0 x1 x2 x3 HDr
      by_cases h1:op = 1
      ·subst h1
       have e1:((1:Int) == 1) = true:=rfl
       cases hm:inB maxV (rawB vs ⟨1,num,a,b⟩) with
       | false=>
         have HY:Hid (R = .error 93):=by rw [<- HT3.out.1]; exact valF_far HDB.out hm
         have HB4:Hid (Below w.heap.size w w3):=HT3.out.2.2.2.2
         have hm2:¬ (-144115188075855872 <= num /\ num <= 144115188075855872):=by
          intro h
          have:inB maxV num = true:=(inB_iff _ _).2 h
          rw [show rawB vs ⟨1,num,a,b⟩ = num from rfl] at hm
          rw [hm] at this
          cases this
         clear hm HT3
         by_cases k1:-144115188075855872 <= num
         ·have d1:decide (-144115188075855872 <= num) = true:=by simpa using k1
          have d2:decide (num <= 144115188075855872) = false:=by simp; omega
          go_wp2
          go_ret2
          show ValPost _ _ _ _
          rw [HX.out,HY.out]
          exact ⟨none,0,rfl,none_row _ _ _ _,HB4.out⟩
         ·have d1:decide (-144115188075855872 <= num) = false:=by simpa using k1
          go_wp2
          go_ret2
          show ValPost _ _ _ _
          rw [HX.out,HY.out]
          exact ⟨none,0,rfl,none_row _ _ _ _,HB4.out⟩
       | true=>
         have HT4:Hid (valF (l.drop (i + 1)) (vs ++ [(rawB vs ⟨1,num,a,b⟩)]) = R /\ vs.length = i /\ (∀ v ∈ vs ++ [(rawB vs ⟨1,num,a,b⟩)],-144115188075855872 <= v /\ v <= 144115188075855872) /\ (w3.alloc (Δ #[I J (rawB vs ⟨1,num,a,b⟩)] 3)).ownsRow w.heap.size 3 1 (Γ vo i vc) i (itRow vs) /\ Below w.heap.size w (w3.alloc (Δ #[I J (rawB vs ⟨1,num,a,b⟩)] 3))):=by
          obtain ⟨t1,t2,t3,t4,t5⟩:=HT3.out
          have hb5:Below w3.heap.size w3 (w3.alloc (Δ #[I J (rawB vs ⟨1,num,a,b⟩)] 3)):=(Below.refl w3.heap.size w3).alloc (Below.refl w3.heap.size w3).size _
          refine ⟨by rw [<- t1]; exact (valF_ok HDB.out hm).symm,t2,fun u hu=>?_,owned_below t4 hb5,t5.trans (hb5.mono t5.size)⟩
          rcases List.mem_append.1 hu with h1 | h1
          ·exact t3 u h1
          ·rw [List.mem_singleton.1 h1]; exact (inB_iff _ _).1 hm
         rw [show rawB vs ⟨1,num,a,b⟩ = num from rfl] at HT4 hm
         have hr:=(inB_iff _ _).1 hm
         unfold maxV at hr
         have d1:decide (-144115188075855872 <= num) = true:=by simpa using hr.1
         have d2:decide (num <= 144115188075855872) = true:=by simpa using hr.2
         clear hm HT3 HDB
         generalize num = r at *
         generalize w3 = w4 at *
         go_wp2_with (at_builtin; refine wpList_append_own _ rfl _ _ 26 rfl w.heap.size 3 i0 _ 1 8 Tryz.underlying26 hi hz0 hz1 hz2 rfl (by decide) (Γ vo i vc) i (itRow vs) rfl HT4.out.2.2.2.1 ⟨w4.heap.size,0,none⟩ 1 1 [I J r] rfl rfl (it_new w4 r) (it_one r) (by unfold maxLen; omega) (by omega) HT4.out.2.2.2.2.size ?_)
         intro v' w5 ho hg _
         obtain ⟨vo5,vc5,rfl⟩:=owned_shape ho
         have HN:Hid (w5.ownsRow w.heap.size 3 1 (Γ vo5 (i + 1) vc5) (i + 1) (itRow (vs ++ [r])) /\ Below w.heap.size w w5):=by
          refine ⟨by rw [itRow_snoc]; exact ho,HT4.out.2.2.2.2.grown hg HT4.out.2.2.2.2.size (fun k hk=>?_)⟩
          rcases HT4.out.2.2.2.1.2 with ⟨e,_⟩ | ⟨q,cap,cur,e,hq,_⟩
          ·cases e <;> cases hk
          ·cases e; cases hk; exact hq
         clear ho hg
         go_wp2_with fail
         go_roundg (gk - 1)
         case measure=>omega
         case rel=>exact ⟨vs ++ [r],vo5,vc5,i + 1,by go_num,rfl,by omega,HT4.out.1,by rw [List.length_append,HT4.out.2.1]; rfl,HT4.out.2.2.1,HN.out.1,HN.out.2⟩
      ·have e1:(op == 1) = false:=by simpa using h1
       obtain ⟨h2,h7,rfl,⟨ia,rfl,lia⟩,⟨jb,rfl,ljb⟩,hraw⟩:=defB_two vs HDB.out h1
       have hsi:IsI w3 vo vs:=own_isI' HT3.out.2.2.2.1 HT3.out.2.1
       obtain ⟨g2,o2,hvo,ca⟩:=hsi ia _ (vAt_get lia)
       subst hvo
       obtain ⟨_,_,e3,cb⟩:=hsi jb _ (vAt_get ljb)
       cases e3
       have ra:=HT3.out.2.2.1 _ (vAt_in lia)
       have rb:=HT3.out.2.2.1 _ (vAt_in ljb)
       have la:ia < i:=by rw [<- HT3.out.2.1]; exact lia
       have lb:jb < i:=by rw [<- HT3.out.2.1]; exact ljb
       clear hsi lia ljb h1
       have HW:Hid (∀ w,Calls Tryz.prog 43 #[I J op,I J (vAt vs (ia:Int)),I J (vAt vs (jb:Int)),I J 144115188075855872] w fun e w'=>e = .returned (.tuple #[I J (madeV op (vAt vs (ia:Int)) (vAt vs (jb:Int))),.bool (inB maxV (madeR op (vAt vs (ia:Int)) (vAt vs (jb:Int))))]) /\ w' = w):=fun w=>made_calls op _ _ w h2 h7 ra.1 ra.2 rb.1 rb.2
       have HV:Hid (inB maxV (madeR op (vAt vs (ia:Int)) (vAt vs (jb:Int))) = true -> madeV op (vAt vs (ia:Int)) (vAt vs (jb:Int)) = madeR op (vAt vs (ia:Int)) (vAt vs (jb:Int))):=madeV_in
       rw [<- hraw] at HW HV
       clear hraw ra rb h2 h7
       generalize madeV op (vAt vs (ia:Int)) (vAt vs (jb:Int)) = v at *
       generalize vAt vs (ia:Int) = xa at *
       generalize vAt vs (jb:Int) = xb at *
       cases hm:inB maxV (rawB vs ⟨op,0,(ia:Int),(jb:Int)⟩) with
       | false=>
         rw [hm] at HW
         have HY:Hid (R = .error 93):=by rw [<- HT3.out.1]; exact valF_far HDB.out hm
         have HB4:Hid (Below w.heap.size w w3):=HT3.out.2.2.2.2
         clear hm HT3 HV HDB
         go_wp2_with fail
         go_quiet ((go_at_call 43; exact Calls.quiet_of_same (HW.out _)))
         go_wp2
         go_ret2
         show ValPost _ _ _ _
         rw [HX.out,HY.out]
         exact ⟨none,0,rfl,none_row _ _ _ _,below_dn HB4.out nq⟩
       | true=>
         rw [hm] at HW HV
         have hv:=HV.out rfl
         subst hv
         have HMm:=hid hm
         obtain ⟨r,hr⟩:∃ r,rawB vs ⟨op,0,(ia:Int),(jb:Int)⟩ = r:=⟨_,rfl⟩
         have HRr:=hid hr
         rw [hr] at HW
         clear hm HV hr
         go_wp2_with fail
         go_quiet ((go_at_call 43; exact Calls.quiet_of_same (HW.out _)))
         have hm:=HMm.out
         have HT4:Hid (valF (l.drop (i + 1)) (vs ++ [(rawB vs ⟨op,0,(ia:Int),(jb:Int)⟩)]) = R /\ vs.length = i /\ (∀ v ∈ vs ++ [(rawB vs ⟨op,0,(ia:Int),(jb:Int)⟩)],-144115188075855872 <= v /\ v <= 144115188075855872) /\ ((w3.drewN nq).alloc (Δ #[I J (rawB vs ⟨op,0,(ia:Int),(jb:Int)⟩)] 3)).ownsRow w.heap.size 3 1 (Γ (some ⟨g2,o2,none⟩) i vc) i (itRow vs) /\ Below w.heap.size w ((w3.drewN nq).alloc (Δ #[I J (rawB vs ⟨op,0,(ia:Int),(jb:Int)⟩)] 3))):=by
          obtain ⟨t1,t2,t3,t4,t5⟩:=HT3.out
          have hb5:Below w3.heap.size w3 ((w3.drewN nq).alloc (Δ #[I J (rawB vs ⟨op,0,(ia:Int),(jb:Int)⟩)] 3)):=(below_dn (Below.refl w3.heap.size w3) nq).alloc (below_dn (Below.refl w3.heap.size w3) nq).size _
          refine ⟨by rw [<- t1]; exact (valF_ok HDB.out hm).symm,t2,fun u hu=>?_,owned_below t4 hb5,t5.trans (hb5.mono t5.size)⟩
          rcases List.mem_append.1 hu with h1 | h1
          ·exact t3 u h1
          ·rw [List.mem_singleton.1 h1]; exact (inB_iff _ _).1 hm
         rw [HRr.out] at HT4
         clear hm HT3 HDB HW y0 y1 y2 y3 ca cb HMm HRr
         generalize (w3.drewN nq) = w4 at *
         go_wp2_with (at_builtin; refine wpList_append_own _ rfl _ _ 26 rfl w.heap.size 3 i0 _ 1 8 Tryz.underlying26 hi hz0 hz1 hz2 rfl (by decide) (Γ (some ⟨g2,o2,none⟩) i vc) i (itRow vs) rfl HT4.out.2.2.2.1 ⟨w4.heap.size,0,none⟩ 1 1 [I J r] rfl rfl (it_new w4 r) (it_one r) (by unfold maxLen; omega) (by omega) HT4.out.2.2.2.2.size ?_)
         intro v' w5 ho hg _
         obtain ⟨vo5,vc5,rfl⟩:=owned_shape ho
         have HN:Hid (w5.ownsRow w.heap.size 3 1 (Γ vo5 (i + 1) vc5) (i + 1) (itRow (vs ++ [r])) /\ Below w.heap.size w w5):=by
          refine ⟨by rw [itRow_snoc]; exact ho,HT4.out.2.2.2.2.grown hg HT4.out.2.2.2.2.size (fun k hk=>?_)⟩
          rcases HT4.out.2.2.2.1.2 with ⟨e,_⟩ | ⟨q,cap,cur,e,hq,_⟩
          ·cases e <;> cases hk
          ·cases e; cases hk; exact hq
         clear ho hg
         go_wp2_with fail
         go_roundg (gk - 1)
         case measure=>omega
         case rel=>exact ⟨vs ++ [r],vo5,vc5,i + 1,by go_num,rfl,by omega,HT4.out.1,by rw [List.length_append,HT4.out.2.1]; rfl,HT4.out.2.2.1,HN.out.1,HN.out.2⟩
   ·have hin2:i = n:=by omega
    subst hin2
    have HY:Hid (R = .ok vs /\ vs.length = i /\ wr.ownsRow w.heap.size 3 1 (Γ vo i vc) i (itRow vs) /\ Below w.heap.size w wr):=by
     obtain ⟨t1,t2,t3,t4,t5⟩:=HT.out
     rw [List.drop_eq_nil_of_le (by rw [HD.out.length]; omega)] at t1
     exact ⟨t1.symm,t2,t4,t5⟩
    clear HT
    go_wp2
    go_ret2
    show ValPost _ _ _ _
    rw [HX.out,HY.out.1]
    have e:vs.length = i:=HY.out.2.1
    exact ⟨vo,vc,by show _ = Ending.returned (.tuple #[Γ vo vs.length vc,I J 0]); rw [e]; rfl,by show wr.ownsRow _ _ _ (Γ vo vs.length vc) vs.length _; rw [e]; exact HY.out.2.2.1,HY.out.2.2.2⟩
def scOf (c:Ck):Sc:=⟨c.letters,c.defs,c.subst,c.pieces,c.mode,c.banded,c.lo,c.hi,c.front,c.back,c.least⟩
/-- What Numbers asks of what Check gave. -/
structure CkFit (c:Ck):Prop where
 letters:c.letters.length <= maxLen
 defs:c.defs.length <= maxLen
 subst:c.subst.length <= maxLen
 pieces:c.pieces.length <= maxLen
 fits:∀ d ∈ c.defs,InR d.num
theorem dfs_own {w:World} {v:Value} {l:List Df} (h:w.ownsRow 0 43 4 v l.length (dfRow l)) (hs:l.length <= maxLen) (hf:∀ d ∈ l,InR d.num):∃ ao cap,v = .slice ao l.length cap /\ DfsAt w ao l.length l:=by
 obtain ⟨ao,cap,rfl⟩:=owned_shape h
 refine ⟨ao,cap,rfl,rfl,hs,hf,fun h0=>?_⟩
 obtain ⟨g,cap',e,_⟩:=owned_some h h0
 cases e
 refine ⟨g,0,rfl,fun i d hi=>?_⟩
 have c:∀ (j:Nat) (u:Value),(dfCells d)[j]? = some u -> w.cell? ⟨g,0 + (i * 4 + j),none⟩ = some u:=fun j u hu=>by
  rw [Nat.zero_add]
  exact (owned_cells h _ _ (flat_get (s:=4) (fun _=>rfl) l i d j u hi hu)).1
 exact ⟨c 0 _ rfl,c 1 _ rfl,c 2 _ rfl,c 3 _ rfl⟩
theorem pcs_own {w:World} {v:Value} {e:TypeId} {base:Nat} {l:List (Int × Int)} (h:w.ownsRow base e 2 v l.length (pcRow l)) (hs:l.length <= maxLen):∃ ao cap,v = .slice ao l.length cap /\ PcsAt w ao l.length l:=by
 obtain ⟨ao,cap,rfl⟩:=owned_shape h
 refine ⟨ao,cap,rfl,rfl,hs,fun h0=>?_⟩
 obtain ⟨g,cap',e,_⟩:=owned_some h h0
 cases e
 refine ⟨g,0,rfl,fun i d hi=>?_⟩
 have c:∀ (j:Nat) (u:Value),(pcCells d)[j]? = some u -> w.cell? ⟨g,0 + (i * 2 + j),none⟩ = some u:=fun j u hu=>by
  rw [Nat.zero_add]
  exact (owned_cells h _ _ (flat_get (s:=2) (fun _=>rfl) l i d j u hi hu)).1
 exact ⟨c 0 _ rfl,c 1 _ rfl⟩
theorem sch_sc {w:World} {c:Ck} {s:Sl} (h:SchAt w c s) (hf:CkFit c):∃ da dc sa sc pa pc,schV c s = .agg (scCells (scOf c) da c.defs.length dc sa c.subst.length sc pa c.pieces.length pc) /\ ScAt w (scOf c) da c.defs.length sa c.subst.length pa c.pieces.length:=by
 obtain ⟨da,dc,e1,h1⟩:=dfs_own h.defs hf.defs hf.fits
 obtain ⟨sa,sc,e2,h2⟩:=own_isI h.subst
 obtain ⟨pa,pc,e3,h3⟩:=pcs_own h.pieces hf.pieces
 refine ⟨da,dc,sa,sc,pa,pc,?_,hf.letters,h1,⟨rfl,hf.subst,h2⟩,h3⟩
 unfold schV scCells
 rw [e1,e2,e3]
 rfl
def srcA:List UInt8:=[108,101,116,32,103,32,61,32,50,32,43,32,50,59,32,97,108,112,104,97,98,101,116,32,34,65,67,34,59,32,109,97,116,99,104,32,49,59,32,109,105,115,109,97,116,99,104,32,45,103,59,32,103,97,112,32,103,44,32,49,59,32,109,111,100,101,32,102,105,116,59]
def srcB:List UInt8:=[108,101,116,32,97,32,61,32,98,59,32,108,101,116,32,98,32,61,32,49,59]
theorem srcA_parse:(parseW srcA).2 = (0,0):=by kernel_rfl
theorem srcB_parse:(parseW srcB).2 = (0,0):=by kernel_rfl
def okA (c:Ck):Bool:=decide (c.letters.length <= maxLen) && (decide (c.defs.length <= maxLen) && (decide (c.subst.length = 4) && (decide (c.pieces.length = 1) && (c.defs.all (fun d=>decide (-9223372036854775808 <= d.num) && decide (d.num <= 9223372036854775807)) &&
 (decide (c.subst = [3,4,4,3]) && (decide (c.least = 7) && (rightS (scOf c) && decide (c.pieces.map (gapS (valsB c.defs).1) = [(4,1)]))))))))
def sayA:Bool:=match checkG (treeRight (parseW srcA).1) (parseW srcA).1 with
 | .ok c=>okA c
 | .error _=>false
theorem sayA_true:sayA = true:=by kernel_rfl
def sayB:Bool:=match checkG (treeRight (parseW srcB).1) (parseW srcB).1 with
 | .ok _=>false
 | .error f=>decide (f = (91,8))
theorem sayB_true:sayB = true:=by kernel_rfl
theorem srcA_check:∃ c,checkG (treeRight (parseW srcA).1) (parseW srcA).1 = .ok c /\ CkFit c /\ c.subst = [3,4,4,3] /\ c.least = 7 /\ rightS (scOf c) = true /\ c.pieces.map (gapS (valsB c.defs).1) = [(4,1)]:=by
 have h:=sayA_true
 unfold sayA at h
 split at h
 ·next c hc=>
  refine ⟨c,hc,?_⟩
  unfold okA at h
  simp only [Bool.and_eq_true,decide_eq_true_eq,List.all_eq_true] at h
  obtain ⟨h1,h2,h3,h4,h5,h6,h7,h8,h9⟩:=h
  exact ⟨⟨h1,h2,by rw [h3]; decide,by rw [h4]; decide,fun d hd=>by have:=h5 d hd; exact this⟩,h6,h7,h8,h9⟩
 ·cases h
theorem srcB_check:checkG (treeRight (parseW srcB).1) (parseW srcB).1 = .error (91,8):=by
 have h:=sayB_true
 unfold sayB at h
 split at h
 ·cases h
 ·next f hf=>
  rw [hf,of_decide_eq_true h]
open Go.Value renaming int->I,string->Ψ,slice->Γ
set_option maxRecDepth 20000
set_option maxHeartbeats 1000000
theorem its_any {S:Nat -> Prop} {w:World} {l:List It} {ao:Option Addr} {n:Nat} (h:ItsAt true S w l ao n):ItsAt false (fun _=>True) w l ao n:=h.loose.base (fun _ _ _=>trivial)
theorem awake_calls (w:World):Calls Tryz.prog 13 #[] w fun e w'=>e = .returned (.bool true) /\ Below w.heap.size w w':=by
 obtain ⟨c,hc1,hc2,hc3,hc4,hc5,hc6⟩:=srcA_check
 obtain ⟨LA,hLA⟩:∃ LA,(parseW srcA).1 = LA:=⟨_,rfl⟩
 obtain ⟨LB,hLB⟩:∃ LB,(parseW srcB).1 = LB:=⟨_,rfl⟩
 have HP1:Hid (∀ w,Calls Tryz.prog 14 #[Ψ ⟨#[108,101,116,32,103,32,61,32,50,32,43,32,50,59,32,97,108,112,104,97,98,101,116,32,34,65,67,34,59,32,109,97,116,99,104,32,49,59,32,109,105,115,109,97,116,99,104,32,45,103,59,32,103,97,112,32,103,44,32,49,59,32,109,111,100,101,32,102,105,116,59]⟩] w fun e w'=>TreePost (LA,0,0) w e w'):=fun w=>by
  have:=parse_calls ⟨#[108,101,116,32,103,32,61,32,50,32,43,32,50,59,32,97,108,112,104,97,98,101,116,32,34,65,67,34,59,32,109,97,116,99,104,32,49,59,32,109,105,115,109,97,116,99,104,32,45,103,59,32,103,97,112,32,103,44,32,49,59,32,109,111,100,101,32,102,105,116,59]⟩ w
  have e:parseW srcA = (LA,0,0):=by rw [<- hLA]; exact Prod.ext rfl srcA_parse
  rw [<- e]; exact this
 have HP2:Hid (∀ w,Calls Tryz.prog 14 #[Ψ ⟨#[108,101,116,32,97,32,61,32,98,59,32,108,101,116,32,98,32,61,32,49,59]⟩] w fun e w'=>TreePost (LB,0,0) w e w'):=fun w=>by
  have:=parse_calls ⟨#[108,101,116,32,97,32,61,32,98,59,32,108,101,116,32,98,32,61,32,49,59]⟩ w
  have e:parseW srcB = (LB,0,0):=by rw [<- hLB]; exact Prod.ext rfl srcB_parse
  rw [<- e]; exact this
 have HG1:Hid (checkG (treeRight LA) LA = .ok c /\ CkFit c):=by rw [<- hLA]; exact ⟨hc1,hc2⟩
 have HG2:Hid (checkG (treeRight LB) LB = .error (91,8)):=by rw [<- hLB]; exact srcB_check
 have HC:Hid (c.subst = [3,4,4,3] /\ c.least = 7 /\ rightS (scOf c) = true /\ c.pieces.map (gapS (valsB c.defs).1) = [(4,1)]):=⟨hc3,hc4,hc5,hc6⟩
 clear hc1 hc2 hc3 hc4 hc5 hc6 hLA hLB
 go_enter Tryz.func13,Tryz.ntmps13
 go_wp2_with fail
 refine (HP1.out w).mono ?_
 rintro e w1 ⟨a1,n1,k1,rfl,hn1,hi1,hb1⟩
 have HI1:Hid (ItsAt false (fun _=>True) w1 LA a1 n1 /\ n1 <= maxLen /\ Below w.heap.size w w1):=⟨its_any hi1,by unfold maxLen; omega,hb1⟩
 clear hn1 hi1 hb1
 go_wp2_with fail
 have hB1:Below w1.heap.size w1 ((w1.alloc (Δ #[Γ a1 n1 k1] 24)).alloc (Δ #[I J 0,I J 0] 32)):=((Below.refl _ _).alloc (Nat.le_refl _) _).alloc (by simp) _
 have f2:((w1.alloc (Δ #[Γ a1 n1 k1] 24)).alloc (Δ #[I J 0,I J 0] 32)).cell? ⟨w1.heap.size + 1,0,none⟩ = some (I J 0):=by
  have:=heap_alloc_new (w1.alloc (Δ #[Γ a1 n1 k1] 24)) (Δ #[I J 0,I J 0] 32)
  rw [show (w1.alloc (Δ #[Γ a1 n1 k1] 24)).heap.size = w1.heap.size + 1 by simp] at this
  exact blk this rfl
 have HBW:Hid (Below w.heap.size w ((w1.alloc (Δ #[Γ a1 n1 k1] 24)).alloc (Δ #[I J 0,I J 0] 32))):=HI1.out.2.2.trans (hB1.mono HI1.out.2.2.size)
 refine (check_calls LA a1 n1 k1 _ (HI1.out.1.below hB1) HI1.out.2.1).mono ?_
 rw [HG1.out.1]
 rintro e w2 ⟨s,rfl,hb2,hs⟩
 have f2':=keepc hb2 f2
 have HBW2:Hid (Below w.heap.size w w2):=HBW.out.trans (hb2.mono HBW.out.size)
 obtain ⟨da,dc,sa,sc,pa,pc,es,hsc⟩:=sch_sc hs HG1.out.2
 have HS2:=hid hsc
 rw [es]
 clear f2 hb2 hs hsc es HBW hB1
 unfold scCells scOf flV
 simp only
 go_wp2_with fail
 have hB2:Below w2.heap.size w2 ((w2.alloc (Δ #[Ψ (bs c.letters),Γ da c.defs.length dc,Γ sa c.subst.length sc,Γ pa c.pieces.length pc,I J c.mode,.bool c.banded,I J c.lo,I J c.hi,I J c.front,I J c.back,I J c.least] 29)).alloc (Δ #[I J 0,I J 0] 32)):=((Below.refl _ _).alloc (Nat.le_refl _) _).alloc (by simp) _
 have fl:((w2.alloc (Δ #[Ψ (bs c.letters),Γ da c.defs.length dc,Γ sa c.subst.length sc,Γ pa c.pieces.length pc,I J c.mode,.bool c.banded,I J c.lo,I J c.hi,I J c.front,I J c.back,I J c.least] 29)).alloc (Δ #[I J 0,I J 0] 32)).cell? ⟨w2.heap.size + 1,0,none⟩ = some (I J 0) /\ ((w2.alloc (Δ #[Ψ (bs c.letters),Γ da c.defs.length dc,Γ sa c.subst.length sc,Γ pa c.pieces.length pc,I J c.mode,.bool c.banded,I J c.lo,I J c.hi,I J c.front,I J c.back,I J c.least] 29)).alloc (Δ #[I J 0,I J 0] 32)).cell? ⟨w2.heap.size + 1,1,none⟩ = some (I J 0):=by
  have:=heap_alloc_new (w2.alloc (Δ #[Ψ (bs c.letters),Γ da c.defs.length dc,Γ sa c.subst.length sc,Γ pa c.pieces.length pc,I J c.mode,.bool c.banded,I J c.lo,I J c.hi,I J c.front,I J c.back,I J c.least] 29)) (Δ #[I J 0,I J 0] 32)
  rw [show (w2.alloc (Δ #[Ψ (bs c.letters),Γ da c.defs.length dc,Γ sa c.subst.length sc,Γ pa c.pieces.length pc,I J c.mode,.bool c.banded,I J c.lo,I J c.hi,I J c.front,I J c.back,I J c.least] 29)).heap.size = w2.heap.size + 1 by simp] at this
  exact ⟨blk this rfl,blk this rfl⟩
 have fb:((w2.alloc (Δ #[Ψ (bs c.letters),Γ da c.defs.length dc,Γ sa c.subst.length sc,Γ pa c.pieces.length pc,I J c.mode,.bool c.banded,I J c.lo,I J c.hi,I J c.front,I J c.back,I J c.least] 29)).alloc (Δ #[I J 0,I J 0] 32)).cell? ⟨w2.heap.size,2,none⟩ = some (Γ sa c.subst.length sc) /\ ((w2.alloc (Δ #[Ψ (bs c.letters),Γ da c.defs.length dc,Γ sa c.subst.length sc,Γ pa c.pieces.length pc,I J c.mode,.bool c.banded,I J c.lo,I J c.hi,I J c.front,I J c.back,I J c.least] 29)).alloc (Δ #[I J 0,I J 0] 32)).cell? ⟨w2.heap.size,10,none⟩ = some (I J 7):=by
  have h1:(w2.alloc (Δ #[Ψ (bs c.letters),Γ da c.defs.length dc,Γ sa c.subst.length sc,Γ pa c.pieces.length pc,I J c.mode,.bool c.banded,I J c.lo,I J c.hi,I J c.front,I J c.back,I J c.least] 29)).heap[w2.heap.size]? = _:=heap_alloc_new w2 (Δ #[Ψ (bs c.letters),Γ da c.defs.length dc,Γ sa c.subst.length sc,Γ pa c.pieces.length pc,I J c.mode,.bool c.banded,I J c.lo,I J c.hi,I J c.front,I J c.back,I J c.least] 29)
  have hb:=(Below.refl (w2.alloc (Δ #[Ψ (bs c.letters),Γ da c.defs.length dc,Γ sa c.subst.length sc,Γ pa c.pieces.length pc,I J c.mode,.bool c.banded,I J c.lo,I J c.hi,I J c.front,I J c.back,I J c.least] 29)).heap.size (w2.alloc (Δ #[Ψ (bs c.letters),Γ da c.defs.length dc,Γ sa c.subst.length sc,Γ pa c.pieces.length pc,I J c.mode,.bool c.banded,I J c.lo,I J c.hi,I J c.front,I J c.back,I J c.least] 29))).alloc (Nat.le_refl _) (Δ #[I J 0,I J 0] 32)
  have x2:(w2.alloc (Δ #[Ψ (bs c.letters),Γ da c.defs.length dc,Γ sa c.subst.length sc,Γ pa c.pieces.length pc,I J c.mode,.bool c.banded,I J c.lo,I J c.hi,I J c.front,I J c.back,I J c.least] 29)).cell? ⟨w2.heap.size,2,none⟩ = some (Γ sa c.subst.length sc):=blk h1 rfl
  have x10:(w2.alloc (Δ #[Ψ (bs c.letters),Γ da c.defs.length dc,Γ sa c.subst.length sc,Γ pa c.pieces.length pc,I J c.mode,.bool c.banded,I J c.lo,I J c.hi,I J c.front,I J c.back,I J c.least] 29)).cell? ⟨w2.heap.size,10,none⟩ = some (I J c.least):=blk h1 rfl
  rw [HC.out.2.1] at x10
  rw [HC.out.2.1] at hb ⊢
  rw [HC.out.2.1] at x2
  exact ⟨keepc hb x2,keepc hb x10⟩
 have fa:=keepc hB2 f2'
 have HBW3:Hid (Below w.heap.size w ((w2.alloc (Δ #[Ψ (bs c.letters),Γ da c.defs.length dc,Γ sa c.subst.length sc,Γ pa c.pieces.length pc,I J c.mode,.bool c.banded,I J c.lo,I J c.hi,I J c.front,I J c.back,I J c.least] 29)).alloc (Δ #[I J 0,I J 0] 32))):=HBW2.out.trans (hB2.mono HBW2.out.size)
 refine (numbers_calls (scOf c) da c.defs.length dc sa c.subst.length sc pa c.pieces.length pc _ (HS2.out.below hB2)).mono ?_
 intro e w3 hp
 unfold NumPost at hp
 rw [HC.out.2.2.1,if_pos rfl] at hp
 obtain ⟨ma,mn,mc,ga,gn,gc,rfl,hb3,hmn,hgn,hos,hog⟩:=hp
 have hg1:c.pieces.length = 1:=by have:=congrArg List.length HC.out.2.2.2; simpa using this
 have hgn1:gn = 1:=by rw [hgn]; exact hg1
 subst hgn1
 have hog2:w3.ownsRow 0 81 2 (Γ ga 1 gc) 1 (pcRow [(4,1)]):=by have:=hog; rw [show (scOf c).pieces.map (gapS (valsB (scOf c).defs).1) = c.pieces.map (gapS (valsB c.defs).1) from rfl,HC.out.2.2.2] at this; exact this
 obtain ⟨g,cap',eg,_⟩:=owned_some hog2 (by omega)
 cases eg
 have q0:w3.cell? ⟨g,0,none⟩ = some (I J 4):=(owned_cells hog2 0 (I J 4) rfl).1
 have q1:w3.cell? ⟨g,1,none⟩ = some (I J 1):=(owned_cells hog2 1 (I J 1) rfl).1
 have p2:=keepc hb3 fa
 have p4:=keepc hb3 fl.1
 have p5:=keepc hb3 fl.2
 have p6:=keepc hb3 fb.1
 have p7:=keepc hb3 fb.2
 have HI3:Hid (IntA w3 sa c.subst.length c.subst /\ Below w.heap.size w w3):=⟨(HS2.out.below hB2).subst.below hb3,HBW3.out.trans (hb3.mono HBW3.out.size)⟩
 clear f2' fa fl fb hB2 HBW3 HBW2 HS2 hb3 hmn hgn hos hog hog2 hg1
 generalize numS (valsB (scOf c).defs).1 (scOf c) = M at *
 unfold moCells
 have p6o:∀ o,(w3.alloc o).cell? ⟨w2.heap.size,2,none⟩ = some (Γ sa c.subst.length sc):=fun o=>keepc ((Below.refl _ _).alloc (Nat.le_refl _) o) p6
 go_wp2_with fail
 have hB3:Below w3.heap.size w3 ((w3.alloc (Δ #[I J M.letters,Γ ma mn mc,Γ (some ⟨g,0,none⟩) 1 gc,I J M.mode,.bool M.banded,I J M.lo,I J M.hi,I J M.front,I J M.back,I J M.least] 52)).alloc (Δ #[I J 3,I J 4,I J 4,I J 3] 3)):=((Below.refl _ _).alloc (Nat.le_refl _) _).alloc (by simp) _
 have sm:((w3.alloc (Δ #[I J M.letters,Γ ma mn mc,Γ (some ⟨g,0,none⟩) 1 gc,I J M.mode,.bool M.banded,I J M.lo,I J M.hi,I J M.front,I J M.back,I J M.least] 52)).alloc (Δ #[I J 3,I J 4,I J 4,I J 3] 3)).cell? ⟨w3.heap.size,2,none⟩ = some (Γ (some ⟨g,0,none⟩) 1 gc):=by
  have h1:(w3.alloc (Δ #[I J M.letters,Γ ma mn mc,Γ (some ⟨g,0,none⟩) 1 gc,I J M.mode,.bool M.banded,I J M.lo,I J M.hi,I J M.front,I J M.back,I J M.least] 52)).cell? ⟨w3.heap.size,2,none⟩ = some (Γ (some ⟨g,0,none⟩) 1 gc):=blk (heap_alloc_new w3 (Δ #[I J M.letters,Γ ma mn mc,Γ (some ⟨g,0,none⟩) 1 gc,I J M.mode,.bool M.banded,I J M.lo,I J M.hi,I J M.front,I J M.back,I J M.least] 52)) rfl
  exact keepc ((Below.refl (w3.alloc (Δ #[I J M.letters,Γ ma mn mc,Γ (some ⟨g,0,none⟩) 1 gc,I J M.mode,.bool M.banded,I J M.lo,I J M.hi,I J M.front,I J M.back,I J M.least] 52)).heap.size (w3.alloc (Δ #[I J M.letters,Γ ma mn mc,Γ (some ⟨g,0,none⟩) 1 gc,I J M.mode,.bool M.banded,I J M.lo,I J M.hi,I J M.front,I J M.back,I J M.least] 52))).alloc (Nat.le_refl _) (Δ #[I J 3,I J 4,I J 4,I J 3] 3)) h1
 have HIn:Hid (IntA ((w3.alloc (Δ #[I J M.letters,Γ ma mn mc,Γ (some ⟨g,0,none⟩) 1 gc,I J M.mode,.bool M.banded,I J M.lo,I J M.hi,I J M.front,I J M.back,I J M.least] 52)).alloc (Δ #[I J 3,I J 4,I J 4,I J 3] 3)) (some ⟨w3.heap.size + 1,0,none⟩) 4 [3,4,4,3]):=by
  have h:=intA_new (W:=(w3.alloc (Δ #[I J M.letters,Γ ma mn mc,Γ (some ⟨g,0,none⟩) 1 gc,I J M.mode,.bool M.banded,I J M.lo,I J M.hi,I J M.front,I J M.back,I J M.least] 52))) (l:=[3,4,4,3]) (g:=w3.heap.size + 1) (by simp) (by unfold maxLen; simp)
  simp only [itRow,List.map_cons,List.map_nil,List.length_cons,List.length_nil,Nat.zero_add,Nat.reduceAdd] at h
  exact h
 have HB3:Hid (Below w.heap.size w ((w3.alloc (Δ #[I J M.letters,Γ ma mn mc,Γ (some ⟨g,0,none⟩) 1 gc,I J M.mode,.bool M.banded,I J M.lo,I J M.hi,I J M.front,I J M.back,I J M.least] 52)).alloc (Δ #[I J 3,I J 4,I J 4,I J 3] 3))):=HI3.out.2.trans (hB3.mono HI3.out.2.size)
 refine (ints_calls c.subst [3,4,4,3] sa c.subst.length sc (some ⟨w3.heap.size + 1,0,none⟩) 4 4 _ (HI3.out.1.below hB3) HIn.out).mono ?_
 rw [show decide (c.subst = [3,4,4,3]) = true by rw [HC.out.1]; rfl]
 rintro e w4 ⟨rfl,hb4⟩
 have r2:=keepc hb4 (keepc hB3 p2)
 have r4:=keepc hb4 (keepc hB3 p4)
 have r5:=keepc hb4 (keepc hB3 p5)
 have r7:=keepc hb4 (keepc hB3 p7)
 have rq0:=keepc hb4 (keepc hB3 q0)
 have rq1:=keepc hb4 (keepc hB3 q1)
 have rm:=keepc hb4 sm
 have HB4:Hid (Below w.heap.size w w4):=HB3.out.trans (hb4.mono HB3.out.size)
 clear hb4 hB3 sm HIn HB3 HI3 p2 p4 p5 p6 p7 q0 q1 p6o
 go_wp2_with fail
 refine (HP2.out w4).mono ?_
 rintro e w5 ⟨a5,n5,k5,rfl,hn5,hi5,hb5⟩
 have s2:=keepc hb5 r2
 have s4:=keepc hb5 r4
 have s5:=keepc hb5 r5
 have s7:=keepc hb5 r7
 have sq0:=keepc hb5 rq0
 have sq1:=keepc hb5 rq1
 have sm:=keepc hb5 rm
 have HI5:Hid (ItsAt false (fun _=>True) w5 LB a5 n5 /\ n5 <= maxLen /\ Below w.heap.size w w5):=⟨its_any hi5,by unfold maxLen; omega,HB4.out.trans (hb5.mono HB4.out.size)⟩
 clear hn5 hi5 hb5 HB4 r2 r4 r5 r7 rq0 rq1 rm
 go_wp2_with fail
 have hB5:Below w5.heap.size w5 ((w5.alloc (Δ #[Γ a5 n5 k5] 24)).alloc (Δ #[I J 0,I J 0] 32)):=((Below.refl _ _).alloc (Nat.le_refl _) _).alloc (by simp) _
 have th:((w5.alloc (Δ #[Γ a5 n5 k5] 24)).alloc (Δ #[I J 0,I J 0] 32)).cell? ⟨w5.heap.size + 1,0,none⟩ = some (I J 0):=by
  have:=heap_alloc_new (w5.alloc (Δ #[Γ a5 n5 k5] 24)) (Δ #[I J 0,I J 0] 32)
  rw [show (w5.alloc (Δ #[Γ a5 n5 k5] 24)).heap.size = w5.heap.size + 1 by simp] at this
  exact blk this rfl
 have HBX:Hid (Below w.heap.size w ((w5.alloc (Δ #[Γ a5 n5 k5] 24)).alloc (Δ #[I J 0,I J 0] 32))):=HI5.out.2.2.trans (hB5.mono HI5.out.2.2.size)
 refine (check_calls LB a5 n5 k5 _ (HI5.out.1.below hB5) HI5.out.2.1).mono ?_
 rw [HG2.out]
 rintro e w6 ⟨_,rfl,hb6⟩
 have u2:∀ o o2,((w6.alloc o).alloc o2).cell? ⟨w1.heap.size + 1,0,none⟩ = some (I J 0):=fun o o2=>keepc (((Below.refl _ _).alloc (Nat.le_refl _) o).alloc (by simp) o2) (keepc hb6 (keepc hB5 s2))
 have u4:∀ o o2,((w6.alloc o).alloc o2).cell? ⟨w2.heap.size + 1,0,none⟩ = some (I J 0):=fun o o2=>keepc (((Below.refl _ _).alloc (Nat.le_refl _) o).alloc (by simp) o2) (keepc hb6 (keepc hB5 s4))
 have u5:∀ o o2,((w6.alloc o).alloc o2).cell? ⟨w2.heap.size + 1,1,none⟩ = some (I J 0):=fun o o2=>keepc (((Below.refl _ _).alloc (Nat.le_refl _) o).alloc (by simp) o2) (keepc hb6 (keepc hB5 s5))
 have u7:∀ o o2,((w6.alloc o).alloc o2).cell? ⟨w2.heap.size,10,none⟩ = some (I J 7):=fun o o2=>keepc (((Below.refl _ _).alloc (Nat.le_refl _) o).alloc (by simp) o2) (keepc hb6 (keepc hB5 s7))
 have uq0:∀ o o2,((w6.alloc o).alloc o2).cell? ⟨g,0,none⟩ = some (I J 4):=fun o o2=>keepc (((Below.refl _ _).alloc (Nat.le_refl _) o).alloc (by simp) o2) (keepc hb6 (keepc hB5 sq0))
 have uq1:∀ o o2,((w6.alloc o).alloc o2).cell? ⟨g,1,none⟩ = some (I J 1):=fun o o2=>keepc (((Below.refl _ _).alloc (Nat.le_refl _) o).alloc (by simp) o2) (keepc hb6 (keepc hB5 sq1))
 have um:∀ o o2,((w6.alloc o).alloc o2).cell? ⟨w3.heap.size,2,none⟩ = some (Γ (some ⟨g,0,none⟩) 1 gc):=fun o o2=>keepc (((Below.refl _ _).alloc (Nat.le_refl _) o).alloc (by simp) o2) (keepc hb6 (keepc hB5 sm))
 have uh:∀ o o2,((w6.alloc o).alloc o2).cell? ⟨w5.heap.size + 1,0,none⟩ = some (I J 0):=fun o o2=>keepc (((Below.refl _ _).alloc (Nat.le_refl _) o).alloc (by simp) o2) (keepc hb6 th)
 have HB6:Hid (∀ o o2,Below w.heap.size w ((w6.alloc o).alloc o2)):=fun o o2=>by
  have h6:=HBX.out.trans (hb6.mono HBX.out.size)
  exact h6.trans ((((Below.refl _ _).alloc (Nat.le_refl _) o).alloc (by simp) o2).mono h6.size)
 clear hb6 HBX th hB5 HI5 s2 s4 s5 s7 sq0 sq1 sm
 unfold flV
 simp only
 go_wp2
 go_ret
 exact ⟨rfl,HB6.out _ _⟩
end Go.Proofs.YtlaodgdlkkmmeaaGreat
