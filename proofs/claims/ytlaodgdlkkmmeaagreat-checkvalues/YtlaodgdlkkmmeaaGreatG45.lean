/-
  The numbers of definitions: Values. Places of definitions: arePlaces. Whether all places of a scheme are some: arePlaces.
-/
import Derived.BigRegion
import Derived.Deep.RegionHeld3
import Derived.Test.YtlaodgdlkkmmeaaGreatG44
namespace Go.Proofs.YtlaodgdlkkmmeaaGreat
open Go.RowKit Go.Deep Go.Maps
open Go.Value renaming int->I,slice->Γ
open Go.IntKind renaming i64->J
open Go.Obj renaming cells->Δ
set_option maxRecDepth 20000
set_option maxHeartbeats 1000000
/-- Definitions that can be read in a world. -/
structure DfsAt (w:World) (ao:Option Addr) (n:Nat) (l:List Df):Prop where
 length:l.length = n
 short:n <= maxLen
 fits:∀ d ∈ l,InR d.num
 cells:0 < n -> ∃ g off,ao = some ⟨g,off,none⟩ /\ ∀ (i:Nat) (d:Df),l[i]? = some d -> w.cell? ⟨g,off + i * 4,none⟩ = some (I J d.op) /\ w.cell? ⟨g,off + i * 4 + 1,none⟩ = some (I J d.num) /\ w.cell? ⟨g,off + i * 4 + 2,none⟩ = some (I J d.a) /\ w.cell? ⟨g,off + i * 4 + 3,none⟩ = some (I J d.b)
theorem DfsAt.below {w w':World} {ao:Option Addr} {n:Nat} {l:List Df} (h:DfsAt w ao n l) (hb:Below w.heap.size w w'):DfsAt w' ao n l:=by
 refine ⟨h.length,h.short,h.fits,fun h0=>?_⟩
 obtain ⟨g,off,e,hc⟩:=h.cells h0
 refine ⟨g,off,e,fun i d hi=>?_⟩
 obtain ⟨h1,h2,h3,h4⟩:=hc i d hi
 exact ⟨by rw [hb.cell (World.block_lt_of_cell? w _ h1)]; exact h1,by rw [hb.cell (World.block_lt_of_cell? w _ h2)]; exact h2,by rw [hb.cell (World.block_lt_of_cell? w _ h3)]; exact h3,by rw [hb.cell (World.block_lt_of_cell? w _ h4)]; exact h4⟩
theorem DfsAt.nil (w:World) (ao:Option Addr):DfsAt w ao 0 []:=⟨rfl,Nat.zero_le _,fun d hd=>by simp at hd,fun h=>absurd h (by decide)⟩
def ValPost (r:List Int × Int) (w:World) (e:Ending) (w':World):Prop:=
 ∃ ao cap,e = .returned (.tuple #[Γ ao r.1.length cap,I J r.2]) /\ w'.ownsRow w.heap.size 3 1 (Γ ao r.1.length cap) r.1.length (itRow r.1) /\ Below w.heap.size w w'
theorem defB_in {d:Df} {n:Nat} (h:defB d n = true) (hn:InR d.num):DfIn d n:=by
 unfold defB at h
 split at h
 ·exact ⟨hn,fun h1=>by omega,fun h1=>by omega⟩
 ·split at h
  ·simp only [Bool.and_eq_true,aheadB,decide_eq_true_eq] at h
   exact ⟨hn,fun _ _=>h.2.1,fun h1=>by omega⟩
  ·split at h
   ·simp only [Bool.and_eq_true,aheadB,decide_eq_true_eq] at h
    exact ⟨hn,fun _ _=>h.2.1,fun _ _=>h.2.2⟩
   ·cases h
theorem own_isI' {w:World} {base:Nat} {vo:Option Addr} {i vc:Nat} {vs:List Int} (h:w.ownsRow base 3 1 (Γ vo i vc) i (itRow vs)) (hl:vs.length = i):IsI w vo vs:=by
 subst hl
 obtain ⟨ao,cap,e,hI⟩:=own_isI h
 cases e
 exact hI
theorem dropD {α:Type} {l:List α} {i:Nat} {d:α} (h:l[i]? = some d):l.drop i = d :: l.drop (i + 1):=by
 obtain ⟨h1,h2⟩:=List.getElem?_eq_some_iff.1 h
 rw [List.drop_eq_getElem_cons h1,h2]
theorem none_row (w:World) (base:Nat) (e:TypeId) (size:Nat):w.ownsRow base e size (Γ none 0 0) 0 []:=⟨by simp,.inl ⟨rfl,rfl⟩⟩
theorem values_calls (l:List Df) (ao:Option Addr) (n cc:Nat) (w:World) (h:DfsAt w ao n l) :
 Calls Tryz.prog 15 #[Γ ao n cc] w fun e w'=>ValPost (valsB l) w e w':=by
 have hns:=h.short
 unfold maxLen at hns
 have hlen:=h.length
 by_cases hbig:5004 < n
 ·have HX:Hid (valsB l = ([],2)):=by show valsB l = _; unfold valsB; rw [if_pos (by omega)]
  clear h hlen
  go_enter Tryz.func15,Tryz.ntmps15
  go_wp2
  go_ret2
  show ValPost _ _ _ _
  rw [HX.out]
  exact ⟨none,0,rfl,none_row _ _ _ _,Below.refl _ _⟩
 ·have hd:decide ((5004:Int) < (n:Int)) = false:=by simp; omega
  obtain ⟨R,hR⟩:∃ R,valF l [] = R:=⟨_,rfl⟩
  have HX:Hid (valsB l = valE R):=by show valsB l = _; rw [valsB_eq (by omega),hR]
  have HR:Hid (valF (l.drop 0) [] = R):=by rw [List.drop_zero]; exact hR
  have HD:Hid (DfsAt w ao n l):=h
  clear hR h hlen
  obtain ⟨i0,hi,hz0,hz1,hz2⟩:=info_parts info3
  go_enter Tryz.func15,Tryz.ntmps15
  go_wp2_with (at_make; refine wpList_make_own _ rfl _ _ 26 rfl w.heap.size 3 i0 _ 1 Tryz.underlying26 hi hz0 hz1 .i64 .i64 _ n rfl rfl rfl (by rw [hz2]; omega) (by unfold maxLen; omega) (Nat.le_refl _) ?_; intro w2 hr hg)
  have HO:Hid (w2.ownsRow w.heap.size 3 1 (Γ (some ⟨w.heap.size,0,none⟩) 0 n) 0 [] /\ Below w.heap.size w w2):=⟨hr,(Below.refl _ _).grown hg (Nat.le_refl _) (by intro k hk; cases hk)⟩
  clear hr hg
  go_loopg [17,4] n (fun k iv kv wr=>∃ (vs:List Int) (vo:Option Addr) (vc i:Nat),iv = I J (i:Int) /\ kv = Γ vo i vc /\ i + k = n /\ Hid (valF (l.drop i) vs = R /\ vs.length = i /\ (∀ v ∈ vs,-144115188075855872 <= v /\ v <= 144115188075855872) /\ wr.ownsRow w.heap.size 3 1 (Γ vo i vc) i (itRow vs) /\ Below w.heap.size w wr))
  case atStart=>exact ⟨[],_,n,0,rfl,rfl,by omega,HR.out,rfl,fun v hv=>by simp at hv,HO.out.1,HO.out.2⟩
  case round=>
   clear HO HR
   obtain ⟨vs,vo,vc,i,rfl,rfl,hik,HT⟩:=hrel
   by_cases hin:i < n
   ·obtain ⟨d,hdi⟩:∃ d,l[i]? = some d:=⟨l[i]'(by rw [HD.out.length]; exact hin),List.getElem?_eq_getElem _⟩
    obtain ⟨g,off,hao,hcs⟩:=HD.out.cells (by omega)
    subst hao
    obtain ⟨b0,b1,b2,b3⟩:=hcs i d hdi
    obtain ⟨t1,t2,t3,t4,t5⟩:=HT.out
    rw [dropD hdi] at t1
    have HDr:Hid (l.drop i = d :: l.drop (i + 1)):=dropD hdi
    have hdn:=HD.out.fits d (List.mem_of_getElem? hdi)
    have x0:wr.cell? ⟨g,off + i * 4,none⟩ = some (I J d.op):=by rw [t5.cell (World.block_lt_of_cell? w _ b0)]; exact b0
    have x1:wr.cell? ⟨g,off + i * 4 + 1,none⟩ = some (I J d.num):=by rw [t5.cell (World.block_lt_of_cell? w _ b1)]; exact b1
    have x2:wr.cell? ⟨g,off + i * 4 + 2,none⟩ = some (I J d.a):=by rw [t5.cell (World.block_lt_of_cell? w _ b2)]; exact b2
    have x3:wr.cell? ⟨g,off + i * 4 + 3,none⟩ = some (I J d.b):=by rw [t5.cell (World.block_lt_of_cell? w _ b3)]; exact b3
    have hC1:=isDef_calls d (i:Int) (wr.alloc (Δ #[I J d.op,I J d.num,I J d.a,I J d.b] 43))
    unfold dfV at hC1
    clear hcs b0 b1 b2 b3 hdi
    cases hdb:defB d i with
    | false=>
      have HY:Hid (R = .error 1):=by rw [<- t1]; exact valF_bad (by rw [t2]; exact hdb)
      rw [hdb] at hC1
      have HC1:=hid hC1
      have HB:Hid (Below w.heap.size w wr):=t5
      clear hC1 hdb t1 t2 t3 t4 t5 HT hdn
      go_wp2_with fail
      refine (HC1.out).mono ?_
      rintro e w3 ⟨rfl,hb3⟩
      have HB3:Hid (Below w.heap.size w w3):=HB.out.trans ((below_box' hb3).mono HB.out.size)
      clear hb3
      go_wp2
      go_ret2
      show ValPost _ _ _ _
      rw [HX.out,HY.out]
      exact ⟨none,0,rfl,none_row _ _ _ _,HB3.out⟩
    | true=>
      rw [hdb] at hC1
      have HC1:=hid hC1
      have HDI:Hid (DfIn d vs.length):=by show DfIn d _; rw [t2]; exact defB_in hdb hdn
      have HDB:Hid (defB d vs.length = true):=by rw [t2]; exact hdb
      clear hC1 hdb t1 t2 t3 t4 t5 hdn
      go_wp2_with fail
      refine (HC1.out).mono ?_
      rintro e w3 ⟨rfl,hb3⟩
      have hB3:=below_box' hb3
      have y0:w3.cell? ⟨wr.heap.size,0,none⟩ = some (I J d.op):=by rw [hb3.cell (by simp)]; exact blk (heap_alloc_new wr _) rfl
      have y1:w3.cell? ⟨wr.heap.size,1,none⟩ = some (I J d.num):=by rw [hb3.cell (by simp)]; exact blk (heap_alloc_new wr _) rfl
      have y2:w3.cell? ⟨wr.heap.size,2,none⟩ = some (I J d.a):=by rw [hb3.cell (by simp)]; exact blk (heap_alloc_new wr _) rfl
      have y3:w3.cell? ⟨wr.heap.size,3,none⟩ = some (I J d.b):=by rw [hb3.cell (by simp)]; exact blk (heap_alloc_new wr _) rfl
      have HT3:Hid (valF (d :: l.drop (i + 1)) vs = R /\ vs.length = i /\ (∀ v ∈ vs,-144115188075855872 <= v /\ v <= 144115188075855872) /\ w3.ownsRow w.heap.size 3 1 (Γ vo i vc) i (itRow vs) /\ Below w.heap.size w w3):=by
       obtain ⟨t1,t2,t3,t4,t5⟩:=HT.out
       rw [HDr.out] at t1
       exact ⟨t1,t2,t3,owned_below t4 hB3,t5.trans (hB3.mono t5.size)⟩
      have hC2:=worth_calls d vs vo vc w3 (own_isI' HT3.out.2.2.2.1 HT3.out.2.1) HT3.out.2.2.1 HDI.out
      rw [HT3.out.2.1] at hC2
      unfold dfV at hC2
      clear hb3 hB3 HT HC1 x0 x1 x2 x3
      have HC2:=hid hC2
      clear hC2
      go_wp2_with fail
      refine (HC2.out).mono ?_
      intro e w4 hp
      obtain ⟨v,he,hv,hb4⟩:=wpost_parts hp
      subst he
      clear hp
      cases hm:inB maxV (rawB vs d) with
      | false=>
        have HY:Hid (R = .error 93):=by rw [<- HT3.out.1]; exact valF_far HDB.out hm
        have HB4:Hid (Below w.heap.size w w4):=HT3.out.2.2.2.2.trans (hb4.mono HT3.out.2.2.2.2.size)
        clear hb4 hv hm HT3 y0 y1 y2 y3
        go_wp2
        go_ret2
        show ValPost _ _ _ _
        rw [HX.out,HY.out]
        exact ⟨none,0,rfl,none_row _ _ _ _,HB4.out⟩
      | true=>
        have hv2:=hv hm
        subst hv2
        have HT4:Hid (valF (l.drop (i + 1)) (vs ++ [rawB vs d]) = R /\ vs.length = i /\ (∀ v ∈ vs ++ [rawB vs d],-144115188075855872 <= v /\ v <= 144115188075855872) /\ (w4.alloc (Δ #[I J (rawB vs d)] 3)).ownsRow w.heap.size 3 1 (Γ vo i vc) i (itRow vs) /\ Below w.heap.size w (w4.alloc (Δ #[I J (rawB vs d)] 3))):=by
         obtain ⟨t1,t2,t3,t4,t5⟩:=HT3.out
         have hb5:Below w3.heap.size w3 (w4.alloc (Δ #[I J (rawB vs d)] 3)):=hb4.alloc hb4.size _
         refine ⟨by rw [<- t1]; exact (valF_ok HDB.out hm).symm,t2,fun u hu=>?_,owned_below t4 hb5,t5.trans (hb5.mono t5.size)⟩
         rcases List.mem_append.1 hu with h1 | h1
         ·exact t3 u h1
         ·rw [List.mem_singleton.1 h1]; exact (inB_iff _ _).1 hm
        generalize rawB vs d = r at *
        clear hb4 hv hm HT3 y0 y1 y2 y3 HC2 HDI HDB
        go_wp2_with (at_builtin; refine wpList_append_own _ rfl _ _ 26 rfl w.heap.size 3 i0 _ 1 8 Tryz.underlying26 hi hz0 hz1 hz2 rfl (by decide) (Γ vo i vc) i (itRow vs) rfl HT4.out.2.2.2.1 ⟨w4.heap.size,0,none⟩ 1 1 [I J r] rfl rfl (it_new w4 r) (it_one r) (by unfold maxLen; omega) (by omega) HT4.out.2.2.2.2.size ?_)
        intro v' w5 ho hg _
        obtain ⟨vo5,vc5,rfl⟩:=owned_shape ho
        have HN:Hid (w5.ownsRow w.heap.size 3 1 (Γ vo5 (i + 1) vc5) (i + 1) (itRow (vs ++ [r])) /\ Below w.heap.size w w5):=by
         refine ⟨by rw [itRow_snoc]; exact ho,HT4.out.2.2.2.2.grown hg HT4.out.2.2.2.2.size (fun k hk=>?_)⟩
         rcases HT4.out.2.2.2.1.2 with ⟨e,_⟩ | ⟨q,cap,cur,e,hq,_⟩
         ·cases e; cases hk
         ·cases e; cases hk; exact hq
        clear ho hg
        go_wp2_with fail
        go_roundg (gk - 1)
        case measure=>omega
        case rel=>exact ⟨vs ++ [r],vo5,vc5,i + 1,by go_num,rfl,by omega,HT4.out.1,by rw [List.length_append,HT4.out.2.1]; rfl,HT4.out.2.2.1,HN.out.1,HN.out.2⟩
   ·have hin2:i = n:=by omega
    subst hin2
    have HY:Hid (R = .ok vs /\ vs.length = i /\ wr.ownsRow w.heap.size 3 1 (Γ vo i vc) i (itRow vs) /\ Below w.heap.size w wr):=by
     obtain ⟨t1,t2,t3,t4,t5⟩:=HT.out
     rw [List.drop_eq_nil_of_le (by rw [HD.out.length]; omega)] at t1
     exact ⟨t1.symm,t2,t4,t5⟩
    clear HT
    go_wp2
    go_ret2
    show ValPost _ _ _ _
    rw [HX.out,HY.out.1]
    have e:vs.length = i:=HY.out.2.1
    exact ⟨vo,vc,by show _ = Ending.returned (.tuple #[Γ vo vs.length vc,I J 0]); rw [e]; rfl,by show wr.ownsRow _ _ _ (Γ vo vs.length vc) vs.length _; rw [e]; exact HY.out.2.2.1,HY.out.2.2.2⟩
open Go.Value renaming int->I
set_option maxRecDepth 20000
set_option maxHeartbeats 1000000
def placeB (vs:List Int) (least p:Int):Bool:=decide (0 <= p /\ p < vs.length /\ least <= vAt vs p /\ vAt vs p <= 72057594037927936)
def fromP (vs:List Int) (least:Int) (ps:List Int):Bool:=ps.all (placeB vs least)
theorem fromP_bad {vs:List Int} {least:Int} {ps:List Int} (k:Nat) (p:Int) (hk:ps[k]? = some p) (h:placeB vs least p = false):fromP vs least ps = false:=by
 unfold fromP
 rw [List.all_eq_false]
 exact ⟨p,List.mem_of_getElem? hk,by simp [h]⟩
theorem fromP_all {vs:List Int} {least:Int} {ps:List Int} (h:∀ (j:Nat) (p:Int),ps[j]? = some p -> placeB vs least p = true):fromP vs least ps = true:=by
 unfold fromP
 rw [List.all_eq_true]
 intro p hp
 obtain ⟨j,hj⟩:=List.getElem?_of_mem hp
 exact h j p hj
/-- Numbers that can be read in a world. -/
structure IntA (w:World) (ao:Option Addr) (n:Nat) (l:List Int):Prop where
 length:l.length = n
 short:n <= maxLen
 isI:IsI w ao l
theorem IntA.below {w w':World} {ao:Option Addr} {n:Nat} {l:List Int} (h:IntA w ao n l) (hb:Below w.heap.size w w'):IntA w' ao n l:=⟨h.length,h.short,h.isI.below hb⟩
theorem intA_new {W:World} {l:List Int} {g:Nat} (hg:g = W.heap.size) (hs:l.length <= maxLen):IntA (W.alloc (.cells (itRow l).toArray 3)) (some ⟨g,0,none⟩) l.length l:=by
 subst hg
 refine ⟨rfl,hs,fun i v hi=>⟨_,0,rfl,?_⟩⟩
 rw [Nat.zero_add]
 exact blk (heap_alloc_new W _) (by simp [itRow,hi])
theorem intA_own {w:World} {base:Nat} {vo:Option Addr} {n vc:Nat} {vs:List Int} (h:w.ownsRow base 3 1 (.slice vo n vc) n (itRow vs)) (hl:vs.length = n) (hs:n <= maxLen):IntA w vo n vs:=⟨hl,hs,own_isI' h hl⟩
theorem from_calls (vs:List Int) (vo:Option Addr) (vn vc g:Nat) (least:Int) (ps:List Int) (po:Option Addr) (pn pc:Nat) (w:World) (hv:IntA w vo vn vs) (hp:IntA w po pn ps) (hg:w.cell? ⟨g,0,none⟩ = some (.slice vo vn vc)) :
 Calls Tryz.prog 119 #[I J least,.slice po pn pc,.pointer (some ⟨g,0,none⟩)] w fun e w'=>e = .returned (.bool (fromP vs least ps)) /\ w = w':=by
 have hpn:=hp.short
 have hvn:=hv.short
 unfold maxLen at hpn hvn
 have HV:Hid (IntA w vo vn vs):=hv
 have HP:Hid (IntA w po pn ps):=hp
 clear hv hp
 go_enter Tryz.func119,Tryz.ntmps119
 go_wp2
 go_loop [7,10] (fun _ i=>∃ k:Nat,k <= pn /\ i = I J k /\ (∀ (j:Nat) (p:Int),j < k -> ps[j]? = some p -> placeB vs least p = true)) (fun _ i=>pn - (intOf i).toNat)
 case atStart=>exact ⟨0,Nat.zero_le _,rfl,fun j p hj=>by omega⟩
 case round=>
  obtain ⟨k,hk,rfl,hall⟩:=hrel
  have HA:=hid hall
  clear hall
  by_cases hlt:k < pn
  ·obtain ⟨p,hpk⟩:∃ p,ps[k]? = some p:=⟨ps[k]'(by rw [HP.out.length]; exact hlt),List.getElem?_eq_getElem _⟩
   obtain ⟨g1,o1,rfl,hc1⟩:=HP.out.isI k p hpk
   have HK:Hid (ps[k]? = some p):=hpk
   clear hpk
   by_cases hp0:p < 0
   ·have HE:Hid (fromP vs least ps = false):=fromP_bad k p HK.out (by simp [placeB]; omega)
    go_wp2
    go_ret
    rw [HE.out]; exact ⟨rfl,rfl⟩
   by_cases hp1:(vn:Int) <= p
   ·have HE:Hid (fromP vs least ps = false):=fromP_bad k p HK.out (by have:=HV.out.length; simp [placeB]; omega)
    go_wp2
    go_ret
    rw [HE.out]; exact ⟨rfl,rfl⟩
   obtain ⟨q,rfl⟩:=Int.eq_ofNat_of_zero_le (show 0 <= p by omega)
   have hq:q < vn:=by omega
   have hvq:=vAt_get (vs:=vs) (i:=q) (by rw [HV.out.length]; exact hq)
   obtain ⟨g2,o2,rfl,hc2⟩:=HV.out.isI q _ hvq
   have HPl:Hid (placeB vs least (q:Int) = decide (least <= vAt vs q /\ vAt vs q <= 72057594037927936)):=by
    have:=HV.out.length
    show placeB _ _ _ = _
    unfold placeB
    congr 1
    apply propext
    constructor
    ·intro h; exact h.2.2
    ·intro h; exact ⟨by omega,by omega,h⟩
   clear hvq hp0 hp1
   generalize vAt vs (q:Int) = v at *
   by_cases h1:v < least
   ·have HE:Hid (fromP vs least ps = false):=fromP_bad k _ HK.out (by rw [HPl.out]; simp; omega)
    go_wp2
    go_ret
    rw [HE.out]; exact ⟨rfl,rfl⟩
   by_cases h2:72057594037927936 < v
   ·have HE:Hid (fromP vs least ps = false):=fromP_bad k _ HK.out (by rw [HPl.out]; simp; omega)
    go_wp2
    go_ret
    rw [HE.out]; exact ⟨rfl,rfl⟩
   go_wp2
   go_round
   case rel=>
    refine ⟨k + 1,by omega,by go_num,?_⟩
    intro j p' hj hjp
    by_cases e:j = k
    ·subst e; rw [HK.out] at hjp; cases hjp; rw [HPl.out]; simp; omega
    ·exact HA.out j p' (by omega) hjp
   case measure=>simp [intOf]; omega
  ·have HE:Hid (fromP vs least ps = true):=fromP_all (fun j p hj=>HA.out j p (by have:=(List.getElem?_eq_some_iff.1 hj).1; rw [HP.out.length] at this; omega) hj)
   go_wp2
   go_ret
   rw [HE.out]; exact ⟨rfl,rfl⟩
open Go.Value renaming int->I,pointer->Φ,slice->Γ
open Go.Ending renaming returned->Ω
set_option maxRecDepth 20000
set_option maxHeartbeats 1000000
structure Sc where
 letters:List UInt8
 defs:List Df
 subst:List Int
 pieces:List (Int × Int)
 mode:Int
 banded:Bool
 lo:Int
 hi:Int
 front:Int
 back:Int
 least:Int
def scCells (x:Sc) (da:Option Addr) (dn dc:Nat) (sa:Option Addr) (sn sc:Nat) (pa:Option Addr) (pn pc:Nat):Array Value:=
 #[.string (bs x.letters),Γ da dn dc,Γ sa sn sc,Γ pa pn pc,I J x.mode,.bool x.banded,I J x.lo,I J x.hi,I J x.front,I J x.back,I J x.least]
/-- Pieces that can be read in a world. -/
structure PcsAt (w:World) (ao:Option Addr) (n:Nat) (l:List (Int × Int)):Prop where
 length:l.length = n
 short:n <= maxLen
 cells:0 < n -> ∃ g off,ao = some ⟨g,off,none⟩ /\ ∀ (i:Nat) (p:Int × Int),l[i]? = some p -> w.cell? ⟨g,off + i * 2,none⟩ = some (I J p.1) /\ w.cell? ⟨g,off + i * 2 + 1,none⟩ = some (I J p.2)
theorem PcsAt.below {w w':World} {ao:Option Addr} {n:Nat} {l:List (Int × Int)} (h:PcsAt w ao n l) (hb:Below w.heap.size w w'):PcsAt w' ao n l:=by
 refine ⟨h.length,h.short,fun h0=>?_⟩
 obtain ⟨g,off,e,hc⟩:=h.cells h0
 refine ⟨g,off,e,fun i q hi=>?_⟩
 obtain ⟨h1,h2⟩:=hc i q hi
 exact ⟨by rw [hb.cell (World.block_lt_of_cell? w _ h1)]; exact h1,by rw [hb.cell (World.block_lt_of_cell? w _ h2)]; exact h2⟩
structure ScAt (w:World) (x:Sc) (da:Option Addr) (dn:Nat) (sa:Option Addr) (sn:Nat) (pa:Option Addr) (pn:Nat):Prop where
 letters:x.letters.length <= maxLen
 defs:DfsAt w da dn x.defs
 subst:IntA w sa sn x.subst
 pieces:PcsAt w pa pn x.pieces
theorem ScAt.below {w w':World} {x:Sc} {da:Option Addr} {dn:Nat} {sa:Option Addr} {sn:Nat} {pa:Option Addr} {pn:Nat} (h:ScAt w x da dn sa sn pa pn) (hb:Below w.heap.size w w'):ScAt w' x da dn sa sn pa pn:=⟨h.letters,h.defs.below hb,h.subst.below hb,h.pieces.below hb⟩
def pcsB (vs:List Int) (l:List (Int × Int)):Bool:=l.all fun p=>fromP vs 0 [p.1,p.2]
def bandS (vs:List Int) (x:Sc):Bool:=if x.banded then fromP vs (-72057594037927936) [x.lo,x.hi] && decide (vAt vs x.lo <= vAt vs x.hi) else decide (x.lo = 0 /\ x.hi = 0)
def arePl (vs:List Int) (x:Sc):Bool:=pcsB vs x.pieces && fromP vs (-72057594037927936) x.subst && fromP vs (-72057594037927936) [x.least] && fromP vs 0 [x.front,x.back] && bandS vs x
theorem pcsB_bad {vs:List Int} {l:List (Int × Int)} (k:Nat) (g:Int × Int) (hk:l[k]? = some g) (h:fromP vs 0 [g.1,g.2] = false):pcsB vs l = false:=by
 unfold pcsB
 rw [List.all_eq_false]
 exact ⟨g,List.mem_of_getElem? hk,by simp [h]⟩
theorem pcsB_all {vs:List Int} {l:List (Int × Int)} (h:∀ (j:Nat) (g:Int × Int),l[j]? = some g -> fromP vs 0 [g.1,g.2] = true):pcsB vs l = true:=by
 unfold pcsB
 rw [List.all_eq_true]
 intro g hg
 obtain ⟨j,hj⟩:=List.getElem?_of_mem hg
 exact h j g hj
theorem two_intA (W:World) (a b:Int) (g:Nat) (hg:g = W.heap.size):IntA (W.alloc (Δ #[I J a,I J b] 3)) (some ⟨g,0,none⟩) 2 [a,b]:=intA_new (l:=[a,b]) hg (by unfold maxLen; simp)
theorem one_intA (W:World) (a:Int) (g:Nat) (hg:g = W.heap.size):IntA (W.alloc (Δ #[I J a] 3)) (some ⟨g,0,none⟩) 1 [a]:=intA_new (l:=[a]) hg (by unfold maxLen; simp)
/-- Two boxes: the scheme, and the list of numbers. -/
structure PB (w:World) (cs:Array Value) (v:Value) (wr:World):Prop where
 low:Below w.heap.size w wr
 box:wr.heap[w.heap.size]? = some (Δ cs 29 (0,0))
 vb:wr.heap[w.heap.size + 1]? = some (Δ #[v] 26 (0,0))
theorem PB.start (w:World) (cs:Array Value) (v:Value):PB w cs v ((w.alloc (Δ cs 29)).alloc (Δ #[v] 26)):=by
 refine ⟨((Below.refl _ _).alloc (Nat.le_refl _) _).alloc (by simp) _,?_,?_⟩
 ·have hb:=(Below.refl (w.alloc (Δ cs 29)).heap.size (w.alloc (Δ cs 29))).alloc (Nat.le_refl _) (Δ #[v] 26)
  rw [hb.block _ (by simp)]
  exact heap_alloc_new w _
 ·have h:=heap_alloc_new (w.alloc (Δ cs 29)) (Δ #[v] 26)
  rwa [show (w.alloc (Δ cs 29)).heap.size = w.heap.size + 1 by simp] at h
theorem PB.next {w:World} {cs:Array Value} {v:Value} {wr w2:World} (h:PB w cs v wr) (hb:Below wr.heap.size wr w2):PB w cs v w2:=
 ⟨h.low.trans (hb.mono h.low.size),by rw [hb.block _ (lt_block h.box)]; exact h.box,by rw [hb.block _ (lt_block h.vb)]; exact h.vb⟩
theorem PB.alloc {w:World} {cs:Array Value} {v:Value} {wr:World} (h:PB w cs v wr) (o:Obj):PB w cs v (wr.alloc o):=h.next ((Below.refl _ _).alloc (Nat.le_refl _) o)
theorem PB.drew {w:World} {cs:Array Value} {v:Value} {wr:World} (h:PB w cs v wr):PB w cs v wr.drew:=h.next (Below.refl _ _).drew
theorem arePlaces_calls (x:Sc) (da:Option Addr) (dn dc:Nat) (sa:Option Addr) (sn sc:Nat) (pa:Option Addr) (pn pc:Nat) (vs:List Int) (vo:Option Addr) (vn vc:Nat) (w:World) (h:ScAt w x da dn sa sn pa pn) (hv:IntA w vo vn vs) :
 Calls Tryz.prog 83 #[.agg (scCells x da dn dc sa sn sc pa pn pc),Γ vo vn vc] w fun e w'=>e = Ω (.bool (arePl vs x)) /\ Below w.heap.size w w':=by
 have hmf:∀ (fn:Fn) (first cap:Array Value) (w:World),(Instr.makeFunc fn first cap).run Tryz.prog w = .ok (.func fn first cap) w:=fun _ _ _ _=>rfl
 have hpn:=h.pieces.short
 have hvn:=hv.short
 unfold maxLen at hpn hvn
 have HS:Hid (ScAt w x da dn sa sn pa pn):=h
 have HV:Hid (IntA w vo vn vs):=hv
 have HF:Hid (∀ W least ps po n c,PB w (scCells x da dn dc sa sn sc pa pn pc) (Γ vo vn vc) W -> IntA W po n ps -> Calls Tryz.prog 119 #[I J least,Γ po n c,Φ (some ⟨w.heap.size + 1,0,none⟩)] W fun e w'=>e = Ω (.bool (fromP vs least ps)) /\ W = w'):=fun W least ps po n c hW hp=>from_calls vs vo vn vc (w.heap.size + 1) least ps po n c W (hv.below hW.low) hp (blk hW.vb rfl)
 clear h hv
 have HN:Hid (arePl vs x = (pcsB vs x.pieces && fromP vs (-72057594037927936) x.subst && fromP vs (-72057594037927936) [x.least] && fromP vs 0 [x.front,x.back] && bandS vs x)):=rfl
 have HBd:Hid (bandS vs x = if x.banded then fromP vs (-72057594037927936) [x.lo,x.hi] && decide (vAt vs x.lo <= vAt vs x.hi) else decide (x.lo = 0 /\ x.hi = 0)):=rfl
 rw [show scCells x da dn dc sa sn sc pa pn pc = #[.string (bs x.letters),Γ da dn dc,Γ sa sn sc,Γ pa pn pc,I J x.mode,.bool x.banded,I J x.lo,I J x.hi,I J x.front,I J x.back,I J x.least] from rfl]
 go_enter Tryz.func83,Tryz.ntmps83
 go_wp2
 go_loopw [7,12] (fun _ i wr=>∃ k:Nat,k <= pn /\ i = I J k /\ (∀ (j:Nat) (g:Int × Int),j < k -> x.pieces[j]? = some g -> fromP vs 0 [g.1,g.2] = true) /\ PB w (scCells x da dn dc sa sn sc pa pn pc) (Γ vo vn vc) wr) (fun _ i _=>pn - (intOf i).toNat)
 case atStart=>exact ⟨0,Nat.zero_le _,rfl,fun j g hj=>by omega,PB.start _ _ _⟩
 case round=>
  obtain ⟨k,hk,rfl,hall,hbx⟩:=hrel
  have HA:=hid hall
  have HX:=hid hbx
  clear hall hbx
  by_cases hlt:k < pn
  ·obtain ⟨g,hgk⟩:∃ g,x.pieces[k]? = some g:=⟨x.pieces[k]'(by rw [HS.out.pieces.length]; exact hlt),List.getElem?_eq_getElem _⟩
   obtain ⟨b,off,rfl,hcs⟩:=(HS.out.pieces.below HX.out.low).cells (by omega)
   obtain ⟨c1,c2⟩:=hcs k g hgk
   have HG:Hid (x.pieces[k]? = some g):=hgk
   clear hcs hgk
   obtain ⟨a,y⟩:=g
   simp only at c1 c2
   generalize hr:fromP vs 0 [a,y] = r
   have HR:Hid (fromP vs 0 [a,y] = r):=hr
   clear hr
   have HX2:Hid (PB w (scCells x da dn dc sa sn sc (some ⟨b,off,none⟩) pn pc) (Γ vo vn vc) ((wr.alloc (Δ #[I J a,I J y] 80)).alloc (Δ #[I J a,I J y] 3))):=(HX.out.alloc _).alloc _
   go_wp2_with fail
   refine (HF.out _ 0 [a,y] _ 2 2 HX2.out (two_intA _ a y _ (by simp))).mono ?_
   rintro e w' ⟨rfl,rfl⟩
   rw [HR.out]
   cases r
   ·go_wp2
    go_ret
    exact ⟨ret_bool (by rw [HN.out,pcsB_bad k _ HG.out HR.out]; rfl),HX2.out.low⟩
   ·go_wp2
    go_roundw
    case rel=>
     refine ⟨k + 1,by omega,by go_num,?_,HX2.out⟩
     intro j g hj hjg
     by_cases e:j = k
     ·subst e; rw [HG.out] at hjg; cases hjg; exact HR.out
     ·exact HA.out j g (by omega) hjg
    case measure=>simp [intOf]; omega
  ·have HGs:Hid (pcsB vs x.pieces = true):=pcsB_all (fun j g hj=>HA.out j g (by have:=(List.getElem?_eq_some_iff.1 hj).1; rw [HS.out.pieces.length] at this; omega) hj)
   have HI:Hid (IntA wr sa sn x.subst):=HS.out.subst.below HX.out.low
   have HVr:Hid (IntA wr vo vn vs):=HV.out.below HX.out.low
   have c2:wr.cell? ⟨w.heap.size,2,none⟩ = some (Γ sa sn sc):=blk HX.out.box rfl
   have c5:wr.cell? ⟨w.heap.size,5,none⟩ = some (.bool x.banded):=blk HX.out.box rfl
   have c6:wr.cell? ⟨w.heap.size,6,none⟩ = some (I J x.lo):=blk HX.out.box rfl
   have c7:wr.cell? ⟨w.heap.size,7,none⟩ = some (I J x.hi):=blk HX.out.box rfl
   have c8:wr.cell? ⟨w.heap.size,8,none⟩ = some (I J x.front):=blk HX.out.box rfl
   have c9:wr.cell? ⟨w.heap.size,9,none⟩ = some (I J x.back):=blk HX.out.box rfl
   have c10:wr.cell? ⟨w.heap.size,10,none⟩ = some (I J x.least):=blk HX.out.box rfl
   have hsz:w.heap.size < wr.heap.size:=lt_block HX.out.box
   have hsz2:w.heap.size < wr.heap.size + 1:=by omega
   clear HA
   have HN2:Hid (arePl vs x = (fromP vs (-72057594037927936) x.subst && fromP vs (-72057594037927936) [x.least] && fromP vs 0 [x.front,x.back] && if x.banded then fromP vs (-72057594037927936) [x.lo,x.hi] && decide (vAt vs x.lo <= vAt vs x.hi) else decide (x.lo = 0 /\ x.hi = 0))):=by
    have:=HN.out
    rw [HGs.out,HBd.out] at this
    exact this
   clear HBd HN HGs HV HS
   obtain ⟨r1,hr1⟩:∃ r,fromP vs (-72057594037927936) x.subst = r:=⟨_,rfl⟩
   obtain ⟨r2,hr2⟩:∃ r,fromP vs (-72057594037927936) [x.least] = r:=⟨_,rfl⟩
   obtain ⟨r3,hr3⟩:∃ r,fromP vs 0 [x.front,x.back] = r:=⟨_,rfl⟩
   obtain ⟨r4,hr4⟩:∃ r,fromP vs (-72057594037927936) [x.lo,x.hi] = r:=⟨_,rfl⟩
   have HNN:Hid (arePl vs x = (r1 && r2 && r3 && if x.banded then r4 && decide (vAt vs x.lo <= vAt vs x.hi) else decide (x.lo = 0 /\ x.hi = 0))):=by
    have:=HN2.out
    rw [hr1,hr2,hr3,hr4] at this
    exact this
   have H1:=hid hr1
   have H2:=hid hr2
   have H3:=hid hr3
   have H4:=hid hr4
   clear hr1 hr2 hr3 hr4 HN2
   go_wp2_with fail
   refine (HF.out _ (-72057594037927936) x.subst _ _ _ HX.out HI.out).mono ?_
   rintro e w' ⟨rfl,rfl⟩
   rw [H1.out]
   cases r1
   ·go_wp2
    go_ret
    exact ⟨ret_bool (by rw [HNN.out]; rfl),HX.out.low⟩
   have HX1:Hid (PB w (scCells x da dn dc sa sn sc pa pn pc) (Γ vo vn vc) (wr.alloc (Δ #[I J x.least] 3))):=HX.out.alloc _
   go_wp2_with fail
   refine (HF.out _ (-72057594037927936) [x.least] _ _ _ HX1.out (one_intA _ x.least _ rfl)).mono ?_
   rintro e w' ⟨rfl,rfl⟩
   rw [H2.out]
   cases r2
   ·go_wp2
    go_ret
    exact ⟨ret_bool (by rw [HNN.out]; rfl),HX1.out.low⟩
   have HX2:Hid (PB w (scCells x da dn dc sa sn sc pa pn pc) (Γ vo vn vc) ((wr.alloc (Δ #[I J x.least] 3)).alloc (Δ #[I J x.front,I J x.back] 3))):=HX1.out.alloc _
   go_wp2_with fail
   refine (HF.out _ 0 [x.front,x.back] _ _ _ HX2.out (two_intA _ x.front x.back _ (by simp))).mono ?_
   rintro e w' ⟨rfl,rfl⟩
   rw [H3.out]
   cases r3
   ·go_wp2
    go_ret
    exact ⟨ret_bool (by rw [HNN.out]; rfl),HX2.out.low⟩
   cases hbd:x.banded
   ·have c5':((wr.alloc (Δ #[I J x.least] 3)).alloc (Δ #[I J x.front,I J x.back] 3)).cell? ⟨w.heap.size,5,none⟩ = some (.bool false):=by have:((wr.alloc (Δ #[I J x.least] 3)).alloc (Δ #[I J x.front,I J x.back] 3)).cell? ⟨w.heap.size,5,none⟩ = some (.bool x.banded):=blk HX2.out.box rfl; rw [hbd] at this; exact this
    rw [hbd] at HNN
    have HN3:Hid (arePl vs x = decide (x.lo = 0 /\ x.hi = 0)):=by show arePl vs x = _; have:=HNN.out; simpa using this
    have HB:Hid (Below w.heap.size w ((wr.alloc (Δ #[I J x.least] 3)).alloc (Δ #[I J x.front,I J x.back] 3))):=HX2.out.low
    clear hbd HNN c5
    have c5:wr.cell? ⟨w.heap.size,5,none⟩ = some (.bool false):=by
     have hb2:Below wr.heap.size wr ((wr.alloc (Δ #[I J x.least] 3)).alloc (Δ #[I J x.front,I J x.back] 3)):=((Below.refl _ _).alloc (Nat.le_refl _) _).alloc (by simp) _
     rw [hb2.cell (p:=⟨w.heap.size,5,none⟩) hsz] at c5'
     exact c5'
    clear c5'
    by_cases h0:x.lo = 0
    ·have hb:(x.lo == 0) = true:=by simpa using h0
     go_wp2
     go_ret
     exact ⟨ret_bool (by rw [HN3.out]; simp [h0,beqz]),HB.out⟩
    ·have hb:(x.lo == 0) = false:=by simpa using h0
     go_wp2
     go_ret
     exact ⟨ret_bool (by rw [HN3.out]; simp [h0]),HB.out⟩
   ·rw [hbd] at HNN c5
    have HN3:Hid (arePl vs x = (r4 && decide (vAt vs x.lo <= vAt vs x.hi))):=by show arePl vs x = _; have:=HNN.out; simpa using this
    clear hbd HNN
    have HX3:Hid (PB w (scCells x da dn dc sa sn sc pa pn pc) (Γ vo vn vc) ((wr.alloc (Δ #[I J x.least] 3)).alloc (Δ #[I J x.front,I J x.back] 3)).drew):=HX2.out.drew
    have HX4:Hid (PB w (scCells x da dn dc sa sn sc pa pn pc) (Γ vo vn vc) (((wr.alloc (Δ #[I J x.least] 3)).alloc (Δ #[I J x.front,I J x.back] 3)).alloc (Δ #[I J x.lo,I J x.hi] 3)).drew):=(HX2.out.alloc _).drew
    have HC:Hid (Calls Tryz.prog 119 #[I J (-72057594037927936),Γ (some ⟨wr.heap.size + 1 + 1,0,none⟩) 2 2,Φ (some ⟨w.heap.size + 1,0,none⟩)] (((wr.alloc (Δ #[I J x.least] 3)).alloc (Δ #[I J x.front,I J x.back] 3)).alloc (Δ #[I J x.lo,I J x.hi] 3)).drew fun e w'=>e = Ω (.bool r4) /\ (((wr.alloc (Δ #[I J x.least] 3)).alloc (Δ #[I J x.front,I J x.back] 3)).alloc (Δ #[I J x.lo,I J x.hi] 3)).drew = w'):=by
     rw [<- H4.out]
     exact HF.out _ (-72057594037927936) [x.lo,x.hi] _ 2 2 HX4.out ((two_intA ((wr.alloc (Δ #[I J x.least] 3)).alloc (Δ #[I J x.front,I J x.back] 3)) x.lo x.hi _ (by simp)).below (Below.refl _ _).drew)
    have d6:((wr.alloc (Δ #[I J x.least] 3)).alloc (Δ #[I J x.front,I J x.back] 3)).drew.cell? ⟨w.heap.size,6,none⟩ = some (I J x.lo):=blk HX3.out.box rfl
    have d7:((wr.alloc (Δ #[I J x.least] 3)).alloc (Δ #[I J x.front,I J x.back] 3)).drew.cell? ⟨w.heap.size,7,none⟩ = some (I J x.hi):=blk HX3.out.box rfl
    have dv:((wr.alloc (Δ #[I J x.least] 3)).alloc (Δ #[I J x.front,I J x.back] 3)).drew.cell? ⟨w.heap.size + 1,0,none⟩ = some (Γ vo vn vc):=blk HX3.out.vb rfl
    have e6:(((wr.alloc (Δ #[I J x.least] 3)).alloc (Δ #[I J x.front,I J x.back] 3)).alloc (Δ #[I J x.lo,I J x.hi] 3)).drew.cell? ⟨w.heap.size,6,none⟩ = some (I J x.lo):=blk HX4.out.box rfl
    have e7:(((wr.alloc (Δ #[I J x.least] 3)).alloc (Δ #[I J x.front,I J x.back] 3)).alloc (Δ #[I J x.lo,I J x.hi] 3)).drew.cell? ⟨w.heap.size,7,none⟩ = some (I J x.hi):=blk HX4.out.box rfl
    have ev:(((wr.alloc (Δ #[I J x.least] 3)).alloc (Δ #[I J x.front,I J x.back] 3)).alloc (Δ #[I J x.lo,I J x.hi] 3)).drew.cell? ⟨w.heap.size + 1,0,none⟩ = some (Γ vo vn vc):=blk HX4.out.vb rfl
    cases r4
    ·have HN4:Hid (arePl vs x = false):=by show arePl vs x = _; have:=HN3.out; simpa using this
     clear HN3 HF H1 H2 H3 H4 HI
     go_wp2_with fail
     have HSx:(fun W:World=>W.cell? ⟨w.heap.size,6,none⟩ = some (I J x.lo) /\ W.cell? ⟨w.heap.size,7,none⟩ = some (I J x.hi)) ((wr.alloc (Δ #[I J x.least] 3)).alloc (Δ #[I J x.front,I J x.back] 3)).drew:=⟨d6,d7⟩
     have HSy:(fun W:World=>W.cell? ⟨w.heap.size,6,none⟩ = some (I J x.lo) /\ W.cell? ⟨w.heap.size,7,none⟩ = some (I J x.hi)) (((wr.alloc (Δ #[I J x.least] 3)).alloc (Δ #[I J x.front,I J x.back] 3)).alloc (Δ #[I J x.lo,I J x.hi] 3)).drew:=⟨e6,e7⟩
     refine wp_region_Y (fun _=>false) (fun W:World=>W.cell? ⟨w.heap.size,6,none⟩ = some (I J x.lo) /\ W.cell? ⟨w.heap.size,7,none⟩ = some (I J x.hi)) (by kernel_rfl) ?_
     refine wpAnyY_takeD (i:=0) 59 (v:=.func (.func 119) #[] #[Φ (some ⟨w.heap.size + 1,0,none⟩)]) rfl rfl (by kernel_rfl) (by kernel_rfl) (fun _ h=>by cases h) (by kernel_rfl) (by kernel_rfl) (fun _ _ _ h=>h) HSx (Or.inl ⟨by rfl,by (intro W hW; have z6:=hW.1; have z7:=hW.2; go_simp)⟩) ?_
     simp only [Act.put,lA,lB,lC]
     refine wpAnyY_takeD (i:=1) 60 (v:=Φ (some ⟨w.heap.size,6,none⟩)) rfl rfl (by kernel_rfl) (by kernel_rfl) (fun _ h=>by cases h) (by kernel_rfl) (by kernel_rfl) (fun _ _ _ h=>h) HSx (Or.inl ⟨by rfl,by (intro W hW; have z6:=hW.1; have z7:=hW.2; go_simp)⟩) ?_
     simp only [Act.put,lA,lB,lC]
     refine wpAnyY_takeD (i:=2) 61 (v:=I J x.lo) rfl rfl (by kernel_rfl) (by kernel_rfl) (fun _ h=>by cases h) (by kernel_rfl) (by kernel_rfl) (fun _ _ _ h=>h) HSx (Or.inl ⟨by rfl,by (intro W hW; have z6:=hW.1; have z7:=hW.2; go_simp)⟩) ?_
     simp only [Act.put,lA,lB,lC]
     refine wpAnyY_takeD (i:=3) 62 (v:=Φ (some ⟨w.heap.size,7,none⟩)) rfl rfl (by kernel_rfl) (by kernel_rfl) (fun _ h=>by cases h) (by kernel_rfl) (by kernel_rfl) (fun _ _ _ h=>h) HSx (Or.inl ⟨by rfl,by (intro W hW; have z6:=hW.1; have z7:=hW.2; go_simp)⟩) ?_
     simp only [Act.put,lA,lB,lC]
     refine wpAnyY_takeD (i:=4) 63 (v:=I J x.hi) rfl rfl (by kernel_rfl) (by kernel_rfl) (fun _ h=>by cases h) (by kernel_rfl) (by kernel_rfl) (fun _ _ _ h=>h) HSx (Or.inl ⟨by rfl,by (intro W hW; have z6:=hW.1; have z7:=hW.2; go_simp)⟩) ?_
     simp only [Act.put,lA,lB,lC]
     refine wpAnyY_one (i:=5) rfl (by kernel_rfl) (fun K hK=>?_)
     go_simp
     refine hK.out _ _ (fun _=>HSy) ?_
     clear hK K
     refine wpAnyY_one (i:=6) rfl (by kernel_rfl) (fun K hK=>?_)
     go_simp
     refine (HC.out).mono ?_
     rintro e w' ⟨rfl,rfl⟩
     refine hK.out _ _ (fun _=>HSy) ?_
     clear hK K
     refine wpAnyY_one (i:=7) rfl (by kernel_rfl) (fun K hK=>?_)
     go_simp
     refine hK.out _ _ (fun _=>HSy) ?_
     clear hK K
     refine wpAnyY_takeD (i:=8) 67 (v:=undef) rfl rfl (by kernel_rfl) (by kernel_rfl) (fun _ h=>by cases h) (by kernel_rfl) (by kernel_rfl) (fun _ _ _ h=>h) HSy (Or.inr ⟨by rfl,rfl⟩) ?_
     simp only [Act.put,lA,lB,lC]
     refine wpAnyY_takeD (i:=9) 68 (v:=undef) rfl rfl (by kernel_rfl) (by kernel_rfl) (fun _ h=>by cases h) (by kernel_rfl) (by kernel_rfl) (fun _ _ _ h=>h) HSy (Or.inr ⟨by rfl,rfl⟩) ?_
     simp only [Act.put,lA,lB,lC]
     refine wpAnyY_takeD (i:=10) 69 (v:=undef) rfl rfl (by kernel_rfl) (by kernel_rfl) (fun _ h=>by cases h) (by kernel_rfl) (by kernel_rfl) (fun _ _ _ h=>h) HSy (Or.inr ⟨by rfl,rfl⟩) ?_
     simp only [Act.put,lA,lB,lC]
     refine wpAnyY_takeD (i:=11) 70 (v:=undef) rfl rfl (by kernel_rfl) (by kernel_rfl) (fun _ h=>by cases h) (by kernel_rfl) (by kernel_rfl) (fun _ _ _ h=>h) HSy (Or.inr ⟨by rfl,rfl⟩) ?_
     simp only [Act.put,lA,lB,lC]
     refine wpAnyY_takeD (i:=12) 71 (v:=undef) rfl rfl (by kernel_rfl) (by kernel_rfl) (fun _ h=>by cases h) (by kernel_rfl) (by kernel_rfl) (fun _ _ _ h=>h) HSy (Or.inr ⟨by rfl,rfl⟩) ?_
     simp only [Act.put,lA,lB,lC]
     refine wpAnyY_takeD (i:=13) 72 (v:=undef) rfl rfl (by kernel_rfl) (by kernel_rfl) (fun _ h=>by cases h) (by kernel_rfl) (by kernel_rfl) (fun _ _ _ h=>h) HSy (Or.inr ⟨by rfl,rfl⟩) ?_
     simp only [Act.put,lA,lB,lC]
     refine wpAnyY_takeD (i:=14) 73 (v:=undef) rfl rfl (by kernel_rfl) (by kernel_rfl) (fun _ h=>by cases h) (by kernel_rfl) (by kernel_rfl) (fun _ _ _ h=>h) HSy (Or.inr ⟨by rfl,rfl⟩) ?_
     simp only [Act.put,lA,lB,lC]
     refine wpAnyY_takeD (i:=15) 74 (v:=undef) rfl rfl (by kernel_rfl) (by kernel_rfl) (fun _ h=>by cases h) (by kernel_rfl) (by kernel_rfl) (fun _ _ _ h=>h) HSy (Or.inr ⟨by rfl,rfl⟩) ?_
     simp only [Act.put,lA,lB,lC]
     refine wpAnyY_takeD (i:=16) 75 (v:=undef) rfl rfl (by kernel_rfl) (by kernel_rfl) (fun _ h=>by cases h) (by kernel_rfl) (by kernel_rfl) (fun _ _ _ h=>h) HSy (Or.inr ⟨by rfl,rfl⟩) ?_
     simp only [Act.put,lA,lB,lC]
     refine wpAnyY_takeD (i:=17) 76 (v:=undef) rfl rfl (by kernel_rfl) (by kernel_rfl) (fun _ h=>by cases h) (by kernel_rfl) (by kernel_rfl) (fun _ _ _ h=>h) HSy (Or.inr ⟨by rfl,rfl⟩) ?_
     simp only [Act.put,lA,lB,lC]
     refine wpAnyY_takeD (i:=18) 77 (v:=undef) rfl rfl (by kernel_rfl) (by kernel_rfl) (fun _ h=>by cases h) (by kernel_rfl) (by kernel_rfl) (fun _ _ _ h=>h) HSy (Or.inr ⟨by rfl,rfl⟩) ?_
     simp only [Act.put,lA,lB,lC]
     refine wpAnyY_one (i:=19) rfl (by kernel_rfl) (fun K hK=>?_)
     go_simp
     refine hK.out _ _ (fun _=>HSy) ?_
     clear hK K
     refine wpAnyY_one (i:=20) rfl (by kernel_rfl) (fun K hK=>?_)
     go_simp
     refine hK.out _ _ (fun _=>HSy) ?_
     clear hK K
     refine wpAnyY_done (by kernel_rfl) ?_ _
     go_wp2
     go_ret
     exact ⟨ret_bool HN4.out.symm,HX4.out.low⟩
    ·have HN4:Hid (arePl vs x = decide (vAt vs x.lo <= vAt vs x.hi)):=by show arePl vs x = _; have:=HN3.out; simpa using this
     have hp:=H4.out
     have hpl:(0 <= x.lo /\ x.lo < vn) /\ 0 <= x.hi /\ x.hi < vn:=by
      have hl:=HVr.out.length
      unfold fromP placeB at hp
      simp only [List.all_cons,List.all_nil,Bool.and_true,Bool.and_eq_true,decide_eq_true_eq] at hp
      omega
     obtain ⟨⟨l0,l1⟩,l2,l3⟩:=hpl
     obtain ⟨ql,hql⟩:=Int.eq_ofNat_of_zero_le l0
     obtain ⟨qh,hqh⟩:=Int.eq_ofNat_of_zero_le l2
     have hVd:=HVr.out.below (((Below.refl _ _).alloc (Nat.le_refl _) (Δ #[I J x.least] 3)).alloc (by simp) (Δ #[I J x.front,I J x.back] 3))
     have hVe:=hVd.below ((Below.refl _ _).alloc (Nat.le_refl _) (Δ #[I J x.lo,I J x.hi] 3))
     have hlt1:ql < vs.length:=by rw [HVr.out.length]; omega
     have hlt2:qh < vs.length:=by rw [HVr.out.length]; omega
     obtain ⟨g2,o2,hvo,hcd1⟩:=hVd.isI ql _ (vAt_get hlt1)
     subst hvo
     obtain ⟨_,_,e2,hcd2⟩:=hVd.isI qh _ (vAt_get hlt2)
     cases e2
     obtain ⟨_,_,e2,hce1⟩:=hVe.isI ql _ (vAt_get hlt1)
     cases e2
     obtain ⟨_,_,e2,hce2⟩:=hVe.isI qh _ (vAt_get hlt2)
     cases e2
     rw [hql,hqh] at HN4
     generalize vAt vs (ql:Int) = y1 at *
     generalize vAt vs (qh:Int) = y2 at *
     have fd1:((wr.alloc (Δ #[I J x.least] 3)).alloc (Δ #[I J x.front,I J x.back] 3)).drew.cell? ⟨g2,o2 + ql,none⟩ = some (I J y1):=hcd1
     have fd2:((wr.alloc (Δ #[I J x.least] 3)).alloc (Δ #[I J x.front,I J x.back] 3)).drew.cell? ⟨g2,o2 + qh,none⟩ = some (I J y2):=hcd2
     have fe1:(((wr.alloc (Δ #[I J x.least] 3)).alloc (Δ #[I J x.front,I J x.back] 3)).alloc (Δ #[I J x.lo,I J x.hi] 3)).drew.cell? ⟨g2,o2 + ql,none⟩ = some (I J y1):=hce1
     have fe2:(((wr.alloc (Δ #[I J x.least] 3)).alloc (Δ #[I J x.front,I J x.back] 3)).alloc (Δ #[I J x.lo,I J x.hi] 3)).drew.cell? ⟨g2,o2 + qh,none⟩ = some (I J y2):=hce2
     have HLo:Hid (x.lo = ql /\ x.hi = qh):=⟨hql,hqh⟩
     have k1:ql < vn:=by omega
     have k2:qh < vn:=by omega
     rw [hql] at d6 e6 e7 ev fe1 fe2 HC HX4
     rw [hqh] at d7 e6 e7 ev fe1 fe2 HC HX4
     clear HN3 HF H1 H2 H3 H4 HI hp l0 l1 l2 l3 hql hqh hlt1 hlt2 hcd1 hcd2 hce1 hce2 hVd hVe HVr
     go_wp2_with fail
     go_region_held3 (fun W=>W.cell? ⟨w.heap.size,6,none⟩ = some (I J (ql:Int)) /\ W.cell? ⟨w.heap.size,7,none⟩ = some (I J (qh:Int)) /\ W.cell? ⟨w.heap.size + 1,0,none⟩ = some (Γ (some ⟨g2,o2,none⟩) vn vc) /\ W.cell? ⟨g2,o2 + ql,none⟩ = some (I J y1) /\ W.cell? ⟨g2,o2 + qh,none⟩ = some (I J y2)) (first | with_reducible assumption | exact ⟨by with_reducible assumption,by with_reducible assumption,by with_reducible assumption,by with_reducible assumption,by with_reducible assumption⟩) (first
      | (go_at_call 119; with_reducible refine (HC.out).mono ?_; rintro e w' ⟨rfl,rfl⟩))
     go_wp2
     go_ret
     exact ⟨ret_bool HN4.out.symm,HX4.out.low⟩
end Go.Proofs.YtlaodgdlkkmmeaaGreat
