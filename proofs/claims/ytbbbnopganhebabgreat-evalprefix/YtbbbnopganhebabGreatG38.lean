/-
  Bytes turned round in place, and the text of them. And what follows.
-/
import Derived.Shelf.SlicesE.Reverse
import Derived.Lib.RowBridge
import Derived.Lib.LazyBuf
import Derived.Laws.IdiomStrings
import Derived.Test.YtbbbnopganhebabGreatG37
namespace Go.Proofs.YtbbbnopganhebabGreat
open Go.RowKit Go.Deep Go.Maps
def revR:Go.Shelf.Ren:=⟨fun | 35=>53 | n=>n,fun | 0=>0 | 3=>3 | 4=>4 | 22=>121 | 23=>5 | n=>n,fun | n=>n⟩
theorem revL:Go.Proofs.SlLaysE.n35 Tryz.prog revR:={
 mixed:=by kernel_rfl
 f35:=⟨Tryz.f53.name,by kernel_rfl,Tryz.func53.trans (congrArg some (by kernel_rfl))⟩
 t0:=Tryz.underlying0
 a0:=Tryz.isAgg0
 z0:=Tryz.sizeOf0
 v0:=Tryz.zeroValue0
 t3:=Tryz.underlying3
 a3:=Tryz.isAgg3
 z3:=Tryz.sizeOf3
 v3:=Tryz.zeroValue3
 t4:=Tryz.underlying4
 a4:=Tryz.isAgg4
 z4:=Tryz.sizeOf4
 v4:=Tryz.zeroValue4
 t22:=Tryz.underlying121
 a22:=Tryz.isAgg121
 z22:=Tryz.sizeOf121
 v22:=Tryz.zeroValue121
 a23:=Tryz.isAgg5
 z23:=Tryz.sizeOf5 }
def u8E (b:UInt8):Value:=.int .u8 (b.toNat:Int)
def byE (l:List UInt8):List Value:=l.map u8E
theorem byE_snoc (l:List UInt8) (c:UInt8):byE (l ++ [c]) = byE l ++ [u8E c]:=by simp [byE]
theorem rev_calls {w:World} {B:Nat} {ao:Option Addr} {n cap:Nat} (t:List UInt8) (h:w.ownsRow B 5 1 (.slice ao n cap) n (byE t)) (hn:n <= 1048576) :
 Calls Tryz.prog 53 #[.slice ao n cap] w fun e w'=>e = .returned (.tuple #[]) /\ Below B w w' /\ (convert 121 9 (.slice ao n cap)).run Tryz.prog w' = .ok (.string ⟨t.reverse.toArray⟩) w':=by
 have hl:t.length = n:=by have:=h.1; simpa [byE] using this
 rcases h.2 with ⟨hv,h0⟩ | ⟨g,cap',cur,hv,hb,hg,-⟩
 ·cases hv
  have ht:t = []:=List.eq_nil_of_length_eq_zero hl
  subst ht
  refine (AnyE.slices_Reverse_empty revL none 0 w).mono ?_
  rintro e w' ⟨rfl,rfl⟩
  refine ⟨rfl,Below.refl _ _,?_⟩
  rw [run_convert_bytes_string w' 121 9 5 none 0 0 Tryz.underlying121 Tryz.underlying5 Tryz.underlying9]
  rfl
 ·cases hv
  subst hl
  have hc:∀ j (hj:j < t.length),w.cell? ⟨g,0 + j,none⟩ = some (u8E t[j]):=fun j hj=>by
   rw [Nat.zero_add,h.cellAt j (by omega)]
   simp [byE,hj]
  have hH:Go.Sort.Holds u8E w g 0 t.toArray:=fun j hj=>by
   have hj':j < t.length:=by simpa using hj
   rw [getElem!_pos t.toArray j hj]
   exact ⟨by rw [hc j hj']; simp,by rw [Nat.zero_add]; exact frozen_of_row w g j cur 5 hg⟩
  refine (AnyE.slices_Reverse revL u8E (fun x=>rfl) g 0 cap t w hH (by omega)).mono ?_
  rintro e w' ⟨rfl,q,hw⟩
  rw [Lib.putRow_eq_setCells u8E w g 0 t.toArray t.reverse q hH (by simp)] at hw
  subst hw
  refine ⟨rfl,below_setCells hb _ _ _ (below_dn (Below.refl _ _) q),?_⟩
  have:=run_convert_bytes_back (P:=Tryz.prog) ((w.drewN q).setCells g 0 (t.reverse.map u8E)) 121 9 5 ⟨g,0,none⟩ cap t.reverse Tryz.underlying121 Tryz.underlying5 Tryz.underlying9 (fun j hj=>by
   have hadd:(⟨g,0,none⟩:Addr).add j = ⟨g,0 + j,none⟩:=by unfold Addr.add; split <;> simp_all
   rw [hadd,World.cell?_setCells_in g (t.reverse.map u8E) 0 (w.drewN q) (fun i hi=>by
    have hi':i < t.length:=by simpa using hi
    show (w.cell? ⟨g,0 + i,none⟩).isSome = true
    rw [hc i hi']; rfl) j (by simpa using hj)]
   simp [u8E])
  rw [List.length_reverse] at this
  exact this
theorem from_has {F:Fe} {G:Tb} {kind i j v t:Int} (ht:-1 <= t):∀ {es:List (Int × Int)} {X:Nat},(∀ e ∈ es,-1 <= e.1) -> (hasE (es.foldl (fromS F G kind i j v) X) t = true ↔ hasE X t = true \/ ∃ e ∈ es,givenE F G kind e i j = some v /\ e.1 = t)
 | [],X,_=>by simp
 | d :: es,X,he=>by
   have ih:=from_has (F:=F) (G:=G) (kind:=kind) (i:=i) (j:=j) (v:=v) ht (es:=es) (X:=fromS F G kind i j v X d) (fun e h=>he e (by simp [h]))
   rw [List.foldl_cons,ih]
   have hd:=he d (by simp)
   unfold fromS
   by_cases hg:givenE F G kind d i j = some v
   ·rw [if_pos hg,has_with hd ht]
    simp only [Bool.or_eq_true,decide_eq_true_eq,List.mem_cons]
    constructor
    ·rintro ((h | h) | ⟨e,h1,h2⟩)
     ·exact .inl h
     ·exact .inr ⟨d,.inl rfl,hg,h.symm⟩
     ·exact .inr ⟨e,.inr h1,h2⟩
    ·rintro (h | ⟨e,rfl | h1,h2,h3⟩)
     ·exact .inl (.inl h)
     ·exact .inl (.inr h3.symm)
     ·exact .inr ⟨e,h1,h2,h3⟩
   ·rw [if_neg hg]
    constructor
    ·rintro (h | ⟨e,h1,h2⟩)
     ·exact .inl h
     ·exact .inr ⟨e,by simp [h1],h2⟩
    ·rintro (h | ⟨e,h1,h2,h3⟩)
     ·exact .inl h
     ·rcases List.mem_cons.1 h1 with rfl | h1
      ·exact absurd h2 hg
      ·exact .inr ⟨e,h1,h2,h3⟩
theorem aheadK_has {F:Fe} {G:Tb} {S:Nat} {kind i j t:Int} (ht:-1 <= t) (he:∀ st ∈ F.r.states,∀ e ∈ st.2,-1 <= e.1):∀ {m:Nat},m <= F.r.states.length -> (hasE (aheadK F G S kind i j m) t = true ↔ ∃ q st e,q < m /\ F.r.states[q]? = some st /\ st.1 = kind /\ hasE S (q:Int) = true /\ e ∈ st.2 /\ givenE F G kind e i j = some ((G i j (q:Int)).getD 0) /\ e.1 = t)
 | 0,_=>by
   show hasE 0 t = true ↔ _
   rw [has_zero]
   constructor
   ·intro h; cases h
   ·rintro ⟨q,st,e,h,_⟩; omega
 | m + 1,hm=>by
   have ih:=aheadK_has (G:=G) (S:=S) (kind:=kind) (i:=i) (j:=j) ht he (m:=m) (by omega)
   obtain ⟨st,hst⟩:∃ st,F.r.states[m]? = some st:=⟨F.r.states[m],List.getElem?_eq_getElem (by omega)⟩
   rw [aheadK_next]
   by_cases hc:st.1 = kind /\ hasE S (m:Int) = true
   ·rw [aheadS_yes hst hc.1 hc.2,from_has ht (he st (List.mem_of_getElem? hst)),ih]
    constructor
    ·rintro (⟨q,s,e,h1,h2⟩ | ⟨e,h1,h2,h3⟩)
     ·exact ⟨q,s,e,by omega,h2⟩
     ·exact ⟨m,st,e,by omega,hst,hc.1,hc.2,h1,h2,h3⟩
    ·rintro ⟨q,s,e,h1,h2,h3,h4,h5,h6,h7⟩
     by_cases hq:q = m
     ·subst hq
      rw [hst] at h2
      cases h2
      exact .inr ⟨e,h5,h6,h7⟩
     ·exact .inl ⟨q,s,e,by omega,h2,h3,h4,h5,h6,h7⟩
   ·rw [aheadS_no hst (by by_cases h1:st.1 = kind
                          ·right
                           cases h2:hasE S (m:Int) with
                           | false=>rfl
                           | true=>exact absurd ⟨h1,h2⟩ hc
                          ·exact .inl h1),ih]
    constructor
    ·rintro ⟨q,s,e,h1,h2⟩
     exact ⟨q,s,e,by omega,h2⟩
    ·rintro ⟨q,s,e,h1,h2,h3,h4,h5⟩
     by_cases hq:q = m
     ·subst hq
      rw [hst] at h2
      cases h2
      exact absurd ⟨h3,h4⟩ hc
     ·exact ⟨q,s,e,by omega,h2,h3,h4,h5⟩
theorem least_le {sts:List St} {S:Nat}:∀ {m:Nat},m <= sts.length -> (leastK sts S m = 3 \/ ∃ (q:Nat) (st:St),q < m /\ sts[q]? = some st /\ hasE S (q:Int) = true /\ st.1 = leastK sts S m) /\ leastK sts S m <= 3 /\ ∀ (q:Nat) (st:St),q < m -> sts[q]? = some st -> hasE S (q:Int) = true -> leastK sts S m <= st.1
 | 0,_=>⟨.inl rfl,by show (3:Int) <= 3; omega,fun q st h=>by omega⟩
 | m + 1,hm=>by
   have ih:=least_le (sts:=sts) (S:=S) (m:=m) (by omega)
   obtain ⟨st,hst⟩:∃ st,sts[m]? = some st:=⟨sts[m],List.getElem?_eq_getElem (by omega)⟩
   rw [leastK_next hst]
   cases hh:hasE S (m:Int) with
   | false=>
     simp only [Bool.false_eq_true,if_false]
     refine ⟨?_,ih.2.1,fun q s hq hs h=>?_⟩
     ·rcases ih.1 with h | ⟨q,s,h1,h2⟩
      ·exact .inl h
      ·exact .inr ⟨q,s,by omega,h2⟩
     ·by_cases e:q = m
      ·subst e; rw [hh] at h; cases h
      ·exact ih.2.2 q s (by omega) hs h
   | true=>
     simp only [if_true]
     refine ⟨?_,by have:=ih.2.1; omega,fun q s hq hs h=>?_⟩
     ·by_cases hl:st.1 < leastK sts S m
      ·exact .inr ⟨m,st,by omega,hst,hh,by omega⟩
      ·rw [show min (leastK sts S m) st.1 = leastK sts S m by omega]
       rcases ih.1 with h | ⟨q,s,h1,h2⟩
       ·exact .inl h
       ·exact .inr ⟨q,s,by omega,h2⟩
     ·by_cases e:q = m
      ·subst e; rw [hst] at hs; cases hs; omega
      ·have:=ih.2.2 q s (by omega) hs h; omega
/-- Some states at a cell, each of which has a value there. -/
structure Pv (F:Fe) (i j:Int) (S:Nat):Prop where
 i0:0 <= i
 iX:i <= F.xs.length
 j0:0 <= j
 jY:j <= F.ys.length
 sm:S < 1024
 ex:∃ s:Int,-1 <= s /\ hasE S s = true
 all:∀ s:Int,-1 <= s -> hasE S s = true -> ∃ v,vlE F i j s = some v
theorem Pv.step {F:Fe} {i j:Int} {S:Nat} (h:Pv F i j S) (hF:FeR F) (hn:hasE S (-1) = false) (hA:aheadE F (vlE F) S (leastE F.r.states S) i j < 1024):Pv F (i - dnE (leastE F.r.states S)) (j - ovE (leastE F.r.states S)) (aheadE F (vlE F) S (leastE F.r.states S) i j):=by
 obtain ⟨s,hs,hS⟩:=h.ex
 obtain ⟨v,hv⟩:=h.all s hs hS
 have hin:=vlE_in hv
 have hs0:s ≠ -1:=fun e=>by rw [e,hn] at hS; cases hS
 obtain ⟨q,rfl⟩:=Int.eq_ofNat_of_zero_le (show 0 <= s by omega)
 obtain ⟨st,hst⟩:∃ st,F.r.states[q]? = some st:=⟨F.r.states[q]'(by omega),List.getElem?_eq_getElem _⟩
 have hl:=least_le (sts:=F.r.states) (S:=S) (m:=F.r.states.length) (Nat.le_refl _)
 rw [<- leastE_eq] at hl
 obtain ⟨q2,st2,h2a,h2b,h2c,h2d⟩:∃ (q:Nat) (st:St),q < F.r.states.length /\ F.r.states[q]? = some st /\ hasE S (q:Int) = true /\ st.1 = leastE F.r.states S:=by
  rcases hl.1 with h3 | h3
  ·have:=hl.2.2 q st (by omega) hst hS
   have:=(hF.kinds st (List.mem_of_getElem? hst)).2
   exact ⟨q,st,by omega,hst,hS,by omega⟩
  ·exact h3
 have hed:∀ st ∈ F.r.states,∀ e ∈ st.2,-1 <= e.1:=fun st hs e he=>(hF.edges st hs e he).1.1
 obtain ⟨v2,hv2⟩:=h.all q2 (by omega) h2c
 obtain ⟨-,-,-,st3,hst3,e,he,hg⟩:=vlE_from hv2
 rw [h2b] at hst3
 cases hst3
 rw [h2d] at hg
 generalize leastE F.r.states S = k at *
 obtain ⟨n,hgn,-⟩:=given_some hg
 have hin2:=vlE_in hgn
 have hd:=dn_ov k
 have he1:=hed st2 (List.mem_of_getElem? h2b) e he
 refine ⟨hin2.1,by have:=h.iX; omega,hin2.2.1,by have:=h.jY; omega,hA,⟨e.1,he1,?_⟩,fun t ht hT=>?_⟩
 ·rw [aheadE_eq,aheadK_has he1 hed (Nat.le_refl _)]
  exact ⟨q2,st2,e,h2a,h2b,h2d,h2c,he,by rw [hv2]; exact hg,rfl⟩
 ·rw [aheadE_eq,aheadK_has ht hed (Nat.le_refl _)] at hT
  obtain ⟨q3,st4,e3,_,_,_,_,_,h6,h7⟩:=hT
  obtain ⟨n3,h8,-⟩:=given_some h6
  rw [h7] at h8
  exact ⟨n3,h8⟩
theorem from_small {F:Fe} {G:Tb} {kind i j v:Int}:∀ {es:List (Int × Int)} {X:Nat},(∀ e ∈ es,e.1 <= 8) -> X < 1024 -> es.foldl (fromS F G kind i j v) X < 1024
 | [],X,_,h=>h
 | d :: es,X,he,h=>from_small (es:=es) (fun e h=>he e (by simp [h])) (by
     show fromS F G kind i j v X d < 1024
     unfold fromS
     split
     ·exact with_lt h (he d (by simp))
     ·exact h)
theorem ahead_small {F:Fe} {G:Tb} {S:Nat} {kind i j:Int} (hF:FeR F):∀ {m:Nat},m <= F.r.states.length -> aheadK F G S kind i j m < 1024
 | 0,_=>by show 0 < 1024; omega
 | m + 1,hm=>by
   have ih:=ahead_small (G:=G) (S:=S) (kind:=kind) (i:=i) (j:=j) hF (m:=m) (by omega)
   obtain ⟨st,hst⟩:∃ st,F.r.states[m]? = some st:=⟨F.r.states[m],List.getElem?_eq_getElem (by omega)⟩
   rw [aheadK_next]
   by_cases h1:st.1 = kind
   ·cases h2:hasE S (m:Int) with
    | true=>
      rw [aheadS_yes hst h1 h2]
      exact from_small (fun e he=>by have:=(hF.edges st (List.mem_of_getElem? hst) e he).1.2; have:=hF.few; omega) ih
    | false=>rw [aheadS_no hst (.inr h2)]; exact ih
   ·rw [aheadS_no hst (.inl h1)]; exact ih
theorem back_fuel {F:Fe} (hF:FeR F):∀ (n m:Nat) {i j:Int} {S:Nat} {cs:List UInt8},Pv F i j S -> i + j < n -> i + j < m -> backN F (vlE F) n i j S cs = backN F (vlE F) m i j S cs
 | 0,m,i,j,S,cs,h,h1,_=>by have:=h.i0; have:=h.j0; omega
 | n + 1,0,i,j,S,cs,h,_,h2=>by have:=h.i0; have:=h.j0; omega
 | n + 1,m + 1,i,j,S,cs,h,h1,h2=>by
   rw [backN,backN]
   split
   ·rfl
   ·next hn=>
    have hn:hasE S (-1) = false:=by simpa using hn
    have hd:=dn_ov (leastE F.r.states S)
    exact back_fuel hF n m (h.step hF hn (ahead_small hF (Nat.le_refl _))) (by omega) (by omega)
/-- What is gone back to from some states at a cell. -/
def backE' (F:Fe) (i j:Int) (S:Nat) (cs:List UInt8):Int × Int × List UInt8:=backN F (vlE F) (i + j + 1).toNat i j S cs
theorem back_end {F:Fe} {i j:Int} {S:Nat} {cs:List UInt8} (h:Pv F i j S) (hs:hasE S (-1) = true):backE' F i j S cs = (i,j,cs):=by
 unfold backE'
 have:=h.i0
 have:=h.j0
 rw [show (i + j + 1).toNat = (i + j).toNat + 1 by omega,backN,if_pos hs]
theorem back_next {F:Fe} (hF:FeR F) {i j:Int} {S:Nat} {cs:List UInt8} (h:Pv F i j S) (hs:hasE S (-1) = false):backE' F i j S cs = backE' F (i - dnE (leastE F.r.states S)) (j - ovE (leastE F.r.states S)) (aheadE F (vlE F) S (leastE F.r.states S) i j) (letE (leastE F.r.states S) :: cs):=by
 unfold backE'
 have hi:=h.i0
 have hj:=h.j0
 have hst:=h.step hF hs (ahead_small hF (Nat.le_refl _))
 rw [show (i + j + 1).toNat = (i + j).toNat + 1 by omega,backN,if_neg (by rw [hs]; simp)]
 have hd:=dn_ov (leastE F.r.states S)
 have:=hst.i0
 have:=hst.j0
 exact back_fuel hF _ _ hst (by omega) (by omega)
/-- An end's states have their values at its cell. -/
theorem endK_pv {F:Fe} {i j:Int}:∀ {m:Nat} {e:En},endK F (vlE F) i j m = some e -> e.1 = i /\ e.2.1 = j /\ (∃ s:Int,-1 <= s /\ hasE e.2.2.2 s = true) /\ ∀ s:Int,-1 <= s -> hasE e.2.2.2 s = true -> ∃ v,vlE F i j s = some v
 | 0,e,h=>by cases h
 | m + 1,e,h=>by
   rw [endK_next] at h
   unfold endS at h
   split at h
   ·exact endK_pv h
   ·next v hv=>
    dsimp only at h
    have hone:∀ s:Int,-1 <= s -> hasE (withE 0 ((m:Int) - 1)) s = true -> ∃ v,vlE F i j s = some v:=fun s hs hS=>by
     rw [has_with (by omega) hs,has_zero] at hS
     simp at hS
     exact ⟨v,by rw [hS]; exact hv⟩
    split at h
    ·cases h
     exact ⟨rfl,rfl,⟨(m:Int) - 1,by omega,by rw [has_with (by omega) (by omega)]; simp⟩,hone⟩
    ·next b hb=>
     have ih:=endK_pv hb
     split at h
     ·cases h
      exact ⟨rfl,rfl,⟨(m:Int) - 1,by omega,by rw [has_with (by omega) (by omega)]; simp⟩,hone⟩
     ·split at h
      ·cases h
       refine ⟨ih.1,ih.2.1,⟨(m:Int) - 1,by omega,by show hasE (withE b.2.2.2 ((m:Int) - 1)) ((m:Int) - 1) = true; rw [has_with (by omega) (by omega)]; simp⟩,fun s hs hS=>?_⟩
       have hS':hasE (withE b.2.2.2 ((m:Int) - 1)) s = true:=hS
       rw [has_with (by omega) hs] at hS'
       simp only [Bool.or_eq_true,decide_eq_true_eq] at hS'
       rcases hS' with h1 | h1
       ·exact ih.2.2.2 s hs h1
       ·exact ⟨v,by rw [h1]; exact hv⟩
      ·cases h
       exact ih
theorem over_some {a b:Option En} {e:En} (h:overE a b = some e):a = some e \/ b = some e:=by
 unfold overE at h
 split at h
 ·exact .inl h
 ·exact .inr h
 ·split at h
  ·exact .inr h
  ·exact .inl h
theorem col_some {F:Fe} {G:Tb} {i:Int} {a:Option En} {e:En}:∀ {q:Nat},colK F G i a q = some e -> a = some e \/ ∃ j:Nat,j < q /\ endE F G i j = some e
 | 0,h=>.inl h
 | q + 1,h=>by
   rw [colK_next] at h
   rcases over_some h with h | h
   ·rcases col_some h with h | ⟨j,h1,h2⟩
    ·exact .inl h
    ·exact .inr ⟨j,by omega,h2⟩
   ·exact .inr ⟨q,by omega,h⟩
theorem row_some {F:Fe} {G:Tb} {e:En}:∀ {q:Nat},rowK F G q = some e -> ∃ i j:Nat,i < q /\ j <= F.ys.length /\ endE F G i j = some e
 | 0,h=>by cases h
 | q + 1,h=>by
   rw [rowK_next] at h
   rcases col_some h with h | ⟨j,h1,h2⟩
   ·obtain ⟨i,j,h1,h2⟩:=row_some h
    exact ⟨i,j,by omega,h2⟩
   ·exact ⟨q,j,by omega,by omega,h2⟩
theorem best_pv {F:Fe} (hF:FeR F) {e:En} (h:bestE F (vlE F) = some e):Pv F e.1 e.2.1 e.2.2.2:=by
 rw [bestE_eq] at h
 have hsm:SmE (rowK F (vlE F) (F.xs.length + 1)):=rowK_small hF.few
 rw [h] at hsm
 obtain ⟨i,j,h1,h2,h3⟩:=row_some h
 rw [endE_eq] at h3
 split at h3
 ·obtain ⟨h4,h5,h6,h7⟩:=endK_pv h3
  rw [h4,h5]
  exact ⟨by omega,by omega,by omega,by omega,hsm,h6,h7⟩
 ·cases h3
open Go.Value renaming int->I
open Go.IntKind renaming i64->J
set_option maxRecDepth 20000
set_option maxHeartbeats 4000000
theorem info5E:(Tryz.prog.info? 5).map (fun i=>(i.zero,i.size,i.bytes)) = some (some (.int .u8 0),1,1):=by kernel_rfl
theorem u8_new (W:World) (c:UInt8):∀ (i:Nat) (u:Value),[u8E c][i]? = some u -> (W.alloc (.cells #[.int .u8 (c.toNat:Int)] 5)).cell? ((⟨W.heap.size,0,none⟩:Addr).add i) = some u:=cells_new W [u8E c] 5
theorem u8_one (c:UInt8):∀ u ∈ [u8E c],u.oneCell' = true:=by
 intro u hu
 rw [List.mem_singleton.1 hu]
 rfl
structure Pb (w W:World):Prop where
 low:Below w.heap.size w W
 res:W.heap[w.heap.size + 1]? = some (.cells #[I J 0,I J 0,.string ⟨#[]⟩] 47 (0,0))
 big:w.heap.size + 2 <= W.heap.size
theorem Pb.next {w W V:World} (h:Pb w W) (hb:Below W.heap.size W V):Pb w V:=
 ⟨h.low.trans (hb.mono h.low.size),by rw [hb.block _ (lt_block h.res)]; exact h.res,Nat.le_trans h.big hb.size⟩
theorem Pb.turn {w W V:World} (h:Pb w W) (hb:Below (w.heap.size + 2) W V):Pb w V:=
 ⟨h.low.trans ⟨hb.os,hb.tape,hb.output,hb.size,fun k hk=>hb.block k (by omega)⟩,by rw [hb.block _ (by omega)]; exact h.res,Nat.le_trans h.big hb.size⟩
theorem Pb.grown {w W V:World} {v:Value} {n:Nat} {l:List Value} (h:Pb w W) (ho:W.ownsRow (w.heap.size + 2) 5 1 v n l) (hg:W.grownBy V v.ownBlock):Pb w V:=by
 have hne:∀ k,k < w.heap.size + 2 -> some k ≠ v.ownBlock:=fun k hk e=>by have:=(ho.lt k e.symm).1; omega
 refine ⟨h.low.trans ⟨hg.os,hg.tape,hg.output,hg.size,fun k hk=>hg.block k (by have:=h.big; omega) (hne k (by omega))⟩,?_,Nat.le_trans h.big hg.size⟩
 rw [hg.block _ (by have:=h.big; omega) (hne _ (by omega))]
 exact h.res
theorem pathTo_calls {w0:World} {F:Fe} {A:Fx} {p:Wp} (en:En) (w:World) (h:Wk w0 F A p w (vlE F)) (hp:Pv F en.1 en.2.1 en.2.2.2) :
 Calls Tryz.prog 27 #[.pointer (some ⟨p.b,0,none⟩),.agg (enV en)] w fun e w'=>e = .returned (.agg #[I J (pathE F (vlE F) en).1,I J (pathE F (vlE F) en).2.1,.string ⟨(pathE F (vlE F) en).2.2.toArray⟩]) /\ Below w.heap.size w w':=by
 have hres:Tryz.f27.results = #[.cell 4 47]:=by kernel_rfl
 have hlx:=h.ok.lx
 have hly:=h.ok.ly
 have HF:Hid (FeR F):=h.ok.toFeR
 have HC1:Hid (∀ W (S:Nat),Below w.heap.size w W -> S < 1024 -> Calls Tryz.prog 49 #[.pointer (some ⟨p.b,0,none⟩),.int .u16 (S:Int)] W fun e w'=>e = .returned (I J (leastE F.r.states S)) /\ Below W.heap.size W w'):=fun W S hW hS=>leastKind_calls S hS W (h.below hW)
 have HC2:Hid (∀ W (S:Nat) (k:Int) (a b:Nat),Below w.heap.size w W -> S < 1024 -> a <= F.xs.length -> b <= F.ys.length -> Calls Tryz.prog 51 #[.pointer (some ⟨p.b,0,none⟩),.int .u16 (S:Int),I J k,I J (a:Int),I J (b:Int)] W fun e w'=>e = .returned (.int .u16 (aheadE F (vlE F) S k a b:Int)) /\ aheadE F (vlE F) S k a b < 1024 /\ Below W.heap.size W w'):=fun W S k a b hW hS ha hb=>aheadW_calls S hS k a b W (h.below hW) ha hb
 obtain ⟨ei,ej,ew,eS⟩:=en
 simp only at hp
 obtain ⟨i0,hi0⟩:=Int.eq_ofNat_of_zero_le hp.i0
 obtain ⟨j0,hj0⟩:=Int.eq_ofNat_of_zero_le hp.j0
 subst hi0
 subst hj0
 have hiX:i0 <= F.xs.length:=by have:=hp.iX; omega
 have hjY:j0 <= F.ys.length:=by have:=hp.jY; omega
 obtain ⟨R,hR⟩:∃ R,pathE F (vlE F) ((i0:Int),(j0:Int),ew,eS) = R:=⟨_,rfl⟩
 have HR:Hid (backE' F i0 j0 eS [] = R):=by rw [<- hR]; rfl
 have HP:Hid (Pv F i0 j0 eS):=hp
 rw [hR]
 unfold enV
 simp only
 have HB:Hid (Pb w ((w.alloc (.cells #[I J (i0:Int),I J (j0:Int),I J ew,.int .u16 (eS:Int)] 75)).alloc (.cells #[I J 0,I J 0,.string ⟨#[]⟩] 47))):=by
  refine ⟨((Below.refl _ _).alloc (Nat.le_refl _) _).alloc (by simp) _,?_,by simp⟩
  have:=heap_alloc_new (w.alloc (.cells #[I J (i0:Int),I J (j0:Int),I J ew,.int .u16 (eS:Int)] 75)) (.cells #[I J 0,I J 0,.string ⟨#[]⟩] 47)
  rw [show (w.alloc (.cells #[I J (i0:Int),I J (j0:Int),I J ew,.int .u16 (eS:Int)] 75)).heap.size = w.heap.size + 1 by simp] at this
  exact this
 obtain ⟨i5,hi,hz0,hz1,hz2⟩:=info_parts info5E
 have hb:=h.fc.lt
 clear h hp hR
 go_enter Tryz.func27,Tryz.ntmps27
 go_upto_region 1 with (fail)
 go_quiet (fail)
 have HB1:=HB.out.next (below_dn (Below.refl _ _) nq)
 generalize World.drewN _ nq = w1 at *
 have HB1':Hid (Pb w w1):=HB1
 clear HB1 HB
 go_wp2
 go_loopw [5,6,7,8,9,10,11] (fun iv jv sv cv _ _ _ wr=>∃ (i j S:Nat) (ao:Option Addr) (cap:Nat) (t:List UInt8),iv = I J i /\ jv = I J j /\ sv = .int .u16 (S:Int) /\ cv = .slice ao t.length cap /\ t.length + i + j <= 131072 /\ S < 1024 /\ Hid (Pv F i j S /\ backE' F i j S t.reverse = R /\ wr.ownsRow (w.heap.size + 2) 5 1 (.slice ao t.length cap) t.length (byE t) /\ Pb w wr)) (fun i j _ _ _ _ _ _=>(intOf i).toNat + (intOf j).toNat)
 case atStart=>exact ⟨i0,j0,eS,none,0,[],rfl,rfl,rfl,rfl,by simp; omega,HP.out.sm,HP.out,HR.out,⟨rfl,.inl ⟨rfl,rfl⟩⟩,HB1'.out⟩
 case round=>
  clear HR HP HB1'
  obtain ⟨i,j,S,ao,cap,t,rfl,rfl,rfl,rfl,hlen,hS,HL⟩:=hrel
  go_wp2_with fail
  refine (has_calls S (-1) _ (by omega) (by omega) (by omega)).mono ?_
  rintro e w2 ⟨rfl,rfl⟩
  cases hh:hasE S (-1) with
  | true=>
    have HE:Hid (R = ((i:Int),(j:Int),t.reverse)):=by show _ = _; rw [<- HL.out.2.1]; exact back_end HL.out.1 hh
    clear hh
    go_wp2_with fail
    refine (rev_calls t HL.out.2.2.1 (by omega)).mono ?_
    rintro e w3 ⟨rfl,hb3,hconv⟩
    have HB3:Hid (Pb w w3):=HL.out.2.2.2.turn hb3
    have r0:w3.cell? ⟨w.heap.size + 1,0,none⟩ = some (I J 0):=blk HB3.out.res rfl
    have r1:w3.cell? ⟨w.heap.size + 1,1,none⟩ = some (I J 0):=blk HB3.out.res rfl
    have r2:w3.cell? ⟨w.heap.size + 1,2,none⟩ = some (.string ⟨#[]⟩):=blk HB3.out.res rfl
    have rf:∀ i,w3.frozen? ⟨w.heap.size + 1,i,none⟩ = false:=fun i=>blkf i HB3.out.res
    clear hb3 HL
    go_wp2
    refine bodyPost_ret (v:=.agg #[I J (i:Int),I J (j:Int),.string ⟨t.reverse.toArray⟩]) ?_ rfl ?_
    ·simp only [results,hres]
     go_simp
    ·rw [HE.out]
     exact ⟨rfl,below_set (below_set (below_set HB3.out.low (by simp) _) (by simp) _) (by simp) _⟩
  | false=>
    have HSt:Hid (Pv F ((i:Int) - dnE (leastE F.r.states S)) ((j:Int) - ovE (leastE F.r.states S)) (aheadE F (vlE F) S (leastE F.r.states S) i j)):=HL.out.1.step HF.out hh (ahead_small HF.out (Nat.le_refl _))
    have HE:Hid (backE' F ((i:Int) - dnE (leastE F.r.states S)) ((j:Int) - ovE (leastE F.r.states S)) (aheadE F (vlE F) S (leastE F.r.states S) i j) (letE (leastE F.r.states S) :: t.reverse) = R):=by show _ = _; rw [<- back_next HF.out HL.out.1 hh]; exact HL.out.2.1
    have hix:i <= F.xs.length:=by have:=HL.out.1.iX; omega
    have hjy:j <= F.ys.length:=by have:=HL.out.1.jY; omega
    clear hh
    go_wp2_with fail
    refine (HC1.out _ S HL.out.2.2.2.low hS).mono ?_
    rintro e w2 ⟨rfl,hb2⟩
    have HL2:Hid (wr.ownsRow (w.heap.size + 2) 5 1 (.slice ao t.length cap) t.length (byE t) /\ w2.ownsRow (w.heap.size + 2) 5 1 (.slice ao t.length cap) t.length (byE t) /\ Pb w w2):=⟨HL.out.2.2.1,owned_below HL.out.2.2.1 hb2,HL.out.2.2.2.next hb2⟩
    clear hb2 HL
    generalize leastE F.r.states S = k at *
    obtain ⟨d1,d2,d3,d4,d5⟩:=dn_ov k
    have HSc:=step_calls k
    have HCc:=column_calls k
    have HC3:=fun W hW=>HC2.out W S k i j hW hS hix hjy
    obtain ⟨i',hi'⟩:=Int.eq_ofNat_of_zero_le HSt.out.i0
    obtain ⟨j',hj'⟩:=Int.eq_ofNat_of_zero_le HSt.out.j0
    rw [hi',hj'] at HSt HE
    generalize aheadE F (vlE F) S k i j = S2 at *
    generalize letE k = c at *
    generalize dnE k = dn at *
    generalize ovE k = ov at *
    have HEq:Hid (∀ W:World,W.ownsRow (w.heap.size + 2) 5 1 (.slice ao t.length cap) t.length (byE t) -> ∀ o,(W.alloc o).ownsRow (w.heap.size + 2) 5 1 (.slice ao t.length cap) t.length (byE t)):=fun W hW o=>owned_below hW ((Below.refl _ _).alloc (Nat.le_refl _) o)
    go_wp2_with fail
    refine (HSc _).mono ?_
    rintro e w3 ⟨rfl,rfl⟩
    go_wp2_with fail
    refine (HC3 _ HL2.out.2.2.low).mono ?_
    rintro e w3 ⟨rfl,hS2,hb3⟩
    have HL3:Hid (w3.ownsRow (w.heap.size + 2) 5 1 (.slice ao t.length cap) t.length (byE t) /\ Pb w w3):=⟨owned_below HL2.out.2.1 hb3,HL2.out.2.2.next hb3⟩
    clear hb3 HL2 HC3 HSc
    go_wp2_with fail
    refine (HCc _).mono ?_
    rintro e w4 ⟨rfl,rfl⟩
    clear HCc
    have HP4:Hid (Pb w (w3.alloc (.cells #[.int .u8 (c.toNat:Int)] 5))):=HL3.out.2.next ((Below.refl _ _).alloc (Nat.le_refl _) _)
    go_wp2_with (at_builtin; refine wpList_append_own _ rfl _ _ 121 rfl (w.heap.size + 2) 5 i5 _ 1 1 Tryz.underlying121 hi hz0 hz1 hz2 rfl (by decide) (.slice ao t.length cap) t.length (byE t) rfl (HEq.out _ HL3.out.1 _) ⟨w3.heap.size,0,none⟩ 1 1 [u8E c] rfl rfl (u8_new w3 c) (u8_one c) (by unfold maxLen; omega) (by omega) HP4.out.big ?_)
    intro v' w5 ho hg _
    have HP5:Hid (Pb w w5):=HP4.out.grown (HEq.out _ HL3.out.1 _) hg
    obtain ⟨ao5,c5,rfl⟩:=owned_shape ho
    have HO5:Hid (w5.ownsRow (w.heap.size + 2) 5 1 (.slice ao5 (t ++ [c]).length c5) (t ++ [c]).length (byE (t ++ [c]))):=by
     show World.ownsRow _ _ _ _ _ _ _
     rw [byE_snoc,List.length_append]
     exact ho
    have HE2:Hid (backE' F (i':Int) (j':Int) S2 (t ++ [c]).reverse = R):=by show _ = _; rw [List.reverse_append]; exact HE.out
    clear ho hg HEq HL3 HP4 HE
    have hlt:(t ++ [c]).length = t.length + 1:=by simp
    go_wp2
    go_roundw
    case rel=>exact ⟨i',j',S2,ao5,c5,t ++ [c],by rw [<- hi'],by rw [<- hj'],rfl,by rw [hlt],by rw [hlt]; omega,hS2,HSt.out,HE2.out,HO5.out,HP5.out⟩
    case measure=>simp [intOf]; omega
set_option maxRecDepth 20000
set_option maxHeartbeats 4000000
theorem fe_made {r:Rc} {d s t x y v:Sq} {xs ys:List Int} {w w1:World} {B:Nat} (hr:RcAt w r d.a d.n s.a s.n t.a t.n) (hx:IntA w x.a x.n xs) (hy:IntA w y.a y.n ys) (hb:Below w.heap.size w w1) (hv:v.n = (valsB r.defs).1.length) (ho:w1.ownsRow B 3 1 (.slice v.a v.n v.c) v.n (itRow (valsB r.defs).1)) (he:errE r xs ys = 0) :
 FcC w1.heap.size (feOf r xs ys) ⟨d,s,t,v,x,y⟩ (w1.alloc (.cells (feCells (feOf r xs ys) ⟨d,s,t,v,x,y⟩) 63)) /\ FcM (w1.alloc (.cells (feCells (feOf r xs ys) ⟨d,s,t,v,x,y⟩) 63)) (feOf r xs ys) ⟨d,s,t,v,x,y⟩ /\ FeOk (feOf r xs ys):=by
 have hbk:=heap_alloc_new w1 (.cells (feCells (feOf r xs ys) ⟨d,s,t,v,x,y⟩) 63)
 have ha:Below w1.heap.size w1 (w1.alloc (.cells (feCells (feOf r xs ys) ⟨d,s,t,v,x,y⟩) 63)):=(Below.refl _ _).alloc (Nat.le_refl _) _
 have hw:=hb.trans (ha.mono hb.size)
 refine ⟨⟨blk hbk rfl,blk hbk rfl,blk hbk rfl,blk hbk rfl,blk hbk rfl,blk hbk rfl,blk hbk rfl,blk hbk rfl,blk hbk rfl,blk hbk rfl,blk hbk rfl,blk hbk rfl,blk hbk rfl,blk hbk rfl⟩,⟨hr.subst.below hw,hr.states.below hw,?_,hx.below hw,hy.below hw⟩,(err_ok he).2.1⟩
 have:=valsB_few r.defs
 exact intA_own (owned_below ho ha) hv.symm (by show v.n <= maxLen; unfold maxLen; omega)
theorem scoreE_bad {r:Rc} {xs ys:List Int} (h:errE r xs ys ≠ 0):scoreE r xs ys = (0,errE r xs ys):=by unfold scoreE; rw [if_pos h]
theorem scoreE_ok {r:Rc} {xs ys:List Int} (h:errE r xs ys = 0):scoreE r xs ys = if (bestE (feOf r xs ys) (vlE (feOf r xs ys))).isSome then ((enG (bestE (feOf r xs ys) (vlE (feOf r xs ys)))).2.2.1,0) else (0,130):=by
 unfold scoreE
 rw [if_neg (by omega)]
 cases bestE (feOf r xs ys) (vlE (feOf r xs ys)) <;> rfl
theorem scoreX_calls (r:Rc) (d s t x y:Sq) (xs ys:List Int) (w:World) (hr:RcAt w r d.a d.n s.a s.n t.a t.n) (hx:IntA w x.a x.n xs) (hy:IntA w y.a y.n ys) :
 Calls Tryz.prog 10 #[.agg (rcCells r d.a d.n d.c s.a s.n s.c t.a t.n t.c),.slice x.a x.n x.c,.slice y.a y.n y.c] w fun e w'=>e = .returned (.tuple #[I J (scoreE r xs ys).1,I J (scoreE r xs ys).2]) /\ Below w.heap.size w w':=by
 have HM:Hid (∀ W,Below w.heap.size w W -> RcAt W r d.a d.n s.a s.n t.a t.n /\ IntA W x.a x.n xs /\ IntA W y.a y.n ys):=fun W hW=>⟨hr.below hW,hx.below hW,hy.below hW⟩
 have HC1:Hid (∀ W,Below w.heap.size w W -> Calls Tryz.prog 17 #[.agg #[I J r.letters,.slice d.a d.n d.c,.slice s.a s.n s.c,I J r.beg,I J r.fin,I J r.front,I J r.back,.bool r.banded,I J r.lo,I J r.hi,.slice t.a t.n t.c],.slice x.a x.n x.c,.slice y.a y.n y.c] W fun e w'=>FoPost r d s t x y xs ys W e w'):=fun W hW=>fieldOf_calls r d s t x y xs ys W (hr.below hW) (hx.below hW) (hy.below hW)
 have HB0:Hid (Below w.heap.size w (w.alloc (.cells #[I J r.letters,.slice d.a d.n d.c,.slice s.a s.n s.c,I J r.beg,I J r.fin,I J r.front,I J r.back,.bool r.banded,I J r.lo,I J r.hi,.slice t.a t.n t.c] 26))):=(Below.refl _ _).alloc (Nat.le_refl _) _
 have HT:Hid (∀ U V,Below w.heap.size w U -> Below U.heap.size U V -> Below w.heap.size w V):=fun U V h1 h2=>h1.trans (h2.mono h1.size)
 clear hr hx hy
 unfold rcCells
 go_enter Tryz.func10,Tryz.ntmps10
 go_wp2_with fail
 refine (HC1.out _ HB0.out).mono ?_
 rintro e w1 (⟨he,rfl,hb1⟩ | ⟨he,v,hv,rfl,hb1,ho⟩)
 ·have HS:Hid (scoreE r xs ys = (0,errE r xs ys)):=scoreE_bad he
  have HB1:Hid (Below w.heap.size w w1):=HT.out _ _ HB0.out hb1
  have kn:(errE r xs ys != 0) = true:=by simpa using he
  unfold zer14
  clear he hb1
  generalize errE r xs ys = er at *
  go_wp2
  go_ret2
  rw [HS.out]
  exact ⟨rfl,HB1.out.alloc HB1.out.size _⟩
 ·have HS:Hid (scoreE r xs ys = if (bestE (feOf r xs ys) (vlE (feOf r xs ys))).isSome then ((enG (bestE (feOf r xs ys) (vlE (feOf r xs ys)))).2.2.1,0) else (0,130)):=scoreE_ok he
  have HB1:Hid (Below w.heap.size w w1):=HT.out _ _ HB0.out hb1
  obtain ⟨h1,h2,h3⟩:=fe_made (HM.out _ (HT.out _ _ HB0.out hb1)).1 (HM.out _ (HT.out _ _ HB0.out hb1)).2.1 (HM.out _ (HT.out _ _ HB0.out hb1)).2.2 (Below.refl _ _) hv ho he
  have HC2:Hid (Calls Tryz.prog 19 #[.pointer (some ⟨w1.heap.size,0,none⟩)] (w1.alloc (.cells #[I J r.letters,.slice d.a d.n d.c,.slice s.a s.n s.c,I J r.beg,I J r.fin,I J r.front,I J r.back,.bool r.banded,I J r.lo,I J r.hi,.slice t.a t.n t.c,.slice v.a v.n v.c,.slice x.a x.n x.c,.slice y.a y.n y.c] 63)) fun e w'=>∃ p:Wp,e = .returned (.pointer (some ⟨p.b,0,none⟩)) /\ Wk (w1.alloc (.cells #[I J r.letters,.slice d.a d.n d.c,.slice s.a s.n s.c,I J r.beg,I J r.fin,I J r.front,I J r.back,.bool r.banded,I J r.lo,I J r.hi,.slice t.a t.n t.c,.slice v.a v.n v.c,.slice x.a x.n x.c,.slice y.a y.n y.c] 63)) (feOf r xs ys) ⟨d,s,t,v,x,y⟩ p w' (vlE (feOf r xs ys))):=workOut_calls _ h1 h2 h3
  unfold feCells feOf
  simp only
  clear he hb1 ho h1 h2 h3 hv HC1 HM
  go_wp2_with fail
  refine HC2.out.mono ?_
  rintro e w2 ⟨p,rfl,hwk⟩
  have HW:Hid (Wk (w1.alloc (.cells #[I J r.letters,.slice d.a d.n d.c,.slice s.a s.n s.c,I J r.beg,I J r.fin,I J r.front,I J r.back,.bool r.banded,I J r.lo,I J r.hi,.slice t.a t.n t.c,.slice v.a v.n v.c,.slice x.a x.n x.c,.slice y.a y.n y.c] 63)) (feOf r xs ys) ⟨d,s,t,v,x,y⟩ p w2 (vlE (feOf r xs ys))):=hwk
  have HB2:Hid (Below w.heap.size w w2):=by
   have h1:=HB1.out.alloc HB1.out.size (.cells #[I J r.letters,.slice d.a d.n d.c,.slice s.a s.n s.c,I J r.beg,I J r.fin,I J r.front,I J r.back,.bool r.banded,I J r.lo,I J r.hi,.slice t.a t.n t.c,.slice v.a v.n v.c,.slice x.a x.n x.c,.slice y.a y.n y.c] 63)
   exact HT.out _ _ h1 hwk.low
  clear hwk HC2
  go_wp2_with fail
  refine (bestEnd_calls w2 HW.out).mono ?_
  rintro e w3 ⟨rfl,hb3⟩
  have HB3:Hid (Below w.heap.size w w3):=HT.out _ _ HB2.out hb3
  clear hb3 HW HB2 HB1
  generalize bestE (feOf r xs ys) (vlE (feOf r xs ys)) = R at *
  unfold enV
  cases R with
  | none=>
    have HS2:Hid (scoreE r xs ys = (0,130)):=HS.out
    clear HS
    simp only [enG,Option.getD_none,Option.isSome_none]
    go_wp2
    go_ret2
    rw [HS2.out]
    exact ⟨rfl,HB3.out.alloc HB3.out.size _⟩
  | some en=>
    have HS2:Hid (scoreE r xs ys = (en.2.2.1,0)):=HS.out
    clear HS
    simp only [enG,Option.getD_some,Option.isSome_some]
    go_wp2
    go_ret2
    rw [HS2.out]
    exact ⟨rfl,HB3.out.alloc HB3.out.size _⟩
end Go.Proofs.YtbbbnopganhebabGreat
