/-
  Whether a sequence is of letters; the widest number. And what follows.
-/
import Derived.Laws.Cover1
import Derived.Test.YtbbbnopganhebabGreatG35
namespace Go.Proofs.YtbbbnopganhebabGreat
open Go.RowKit Go.Deep Go.Maps
open Go.Value renaming int->I
open Go.IntKind renaming i64->J
set_option maxRecDepth 20000
set_option maxHeartbeats 2000000
theorem letsE_bad {n:Int} {xs:List Int} (k:Nat) (x:Int) (hk:xs[k]? = some x) (h:x < 0 \/ n <= x):letsE n xs = false:=by
 unfold letsE
 rw [List.all_eq_false]
 exact ⟨x,List.mem_of_getElem? hk,by rw [inI_no.2 (by omega)]; simp⟩
theorem letsE_all {n:Int} {xs:List Int} (h:∀ (j:Nat) (x:Int),xs[j]? = some x -> 0 <= x /\ x < n):letsE n xs = true:=by
 unfold letsE
 rw [List.all_eq_true]
 intro x hx
 obtain ⟨j,hj⟩:=List.getElem?_of_mem hx
 exact inI_iff.2 (by have:=h j x hj; omega)
theorem letsE_mem {n:Int} {xs:List Int} (h:letsE n xs = true):∀ x ∈ xs,0 <= x /\ x < n:=fun x hx=>by
 have:=inI_iff.1 (List.all_eq_true.1 h x hx)
 omega
theorem areLetters_calls (n:Int) (xs:List Int) (xo:Option Addr) (xn xc:Nat) (w:World) (hx:IntA w xo xn xs) :
 Calls Tryz.prog 38 #[I J n,.slice xo xn xc] w fun e w'=>e = .returned (.bool (letsE n xs)) /\ w = w':=by
 have hxn:=hx.short
 unfold maxLen at hxn
 have HP:Hid (IntA w xo xn xs):=hx
 clear hx
 go_enter Tryz.func38,Tryz.ntmps38
 go_wp2
 go_loop [6,9] (fun _ i=>∃ k:Nat,k <= xn /\ i = I J k /\ (∀ (j:Nat) (x:Int),j < k -> xs[j]? = some x -> 0 <= x /\ x < n)) (fun _ i=>xn - (intOf i).toNat)
 case atStart=>exact ⟨0,Nat.zero_le _,rfl,fun j p hj=>by omega⟩
 case round=>
  obtain ⟨k,hk,rfl,hall⟩:=hrel
  have HA:Hid (∀ (j:Nat) (x:Int),j < k -> xs[j]? = some x -> 0 <= x /\ x < n):=hall
  clear hall
  by_cases hlt:k < xn
  ·obtain ⟨x,hxk⟩:∃ x,xs[k]? = some x:=⟨xs[k]'(by rw [HP.out.length]; exact hlt),List.getElem?_eq_getElem _⟩
   obtain ⟨g1,o1,rfl,hc1⟩:=HP.out.isI k x hxk
   have HK:Hid (xs[k]? = some x):=hxk
   clear hxk
   by_cases h1:x < 0
   ·have k1:decide (x < 0) = true:=by simpa using h1
    have HE:Hid (letsE n xs = false):=letsE_bad k x HK.out (.inl h1)
    go_wp2
    go_ret
    rw [HE.out]; exact ⟨rfl,rfl⟩
   ·have k1:decide (x < 0) = false:=by simpa using h1
    by_cases h2:n <= x
    ·have k2:decide (n <= x) = true:=by simpa using h2
     have HE:Hid (letsE n xs = false):=letsE_bad k x HK.out (.inr h2)
     go_wp2
     go_ret
     rw [HE.out]; exact ⟨rfl,rfl⟩
    ·have k2:decide (n <= x) = false:=by simpa using h2
     go_wp2
     go_round
     case rel=>
      refine ⟨k + 1,by omega,by go_num,?_⟩
      intro j p' hj hjp
      by_cases e:j = k
      ·subst e; rw [HK.out] at hjp; cases hjp; omega
      ·exact HA.out j p' (by omega) hjp
     case measure=>simp [intOf]; omega
  ·have HE:Hid (letsE n xs = true):=letsE_all (fun j x hj=>HA.out j x (by have:=(List.getElem?_eq_some_iff.1 hj).1; rw [HP.out.length] at this; omega) hj)
   go_wp2
   go_ret
   rw [HE.out]; exact ⟨rfl,rfl⟩
def wid1 (vs:List Int) (w:Int) (ps:List Int):Int:=ps.foldl (fun w p=>max w (max (vAt vs p) (- vAt vs p))) w
def wid2 (vs:List Int) (w:Int) (es:List (Int × Int)):Int:=es.foldl (fun w e=>max w (max (costE vs e.2) (- costE vs e.2))) w
def wid3 (vs:List Int) (w:Int) (sts:List St):Int:=sts.foldl (fun w s=>wid2 vs w s.2) w
theorem widE_eq (r:Rc) (vs:List Int):widE r vs = max (wid3 vs (wid1 vs 1 r.subst) r.states) (max (vAt vs r.front) (vAt vs r.back)):=rfl
theorem wid1_cons {vs ps:List Int} {w p:Int} {k:Nat} (h:ps[k]? = some p):wid1 vs w (ps.drop k) = wid1 vs (max w (max (vAt vs p) (- vAt vs p))) (ps.drop (k + 1)):=by rw [dropP h]; rfl
theorem wid2_cons {vs:List Int} {es:List (Int × Int)} {w:Int} {e:Int × Int} {k:Nat} (h:es[k]? = some e):wid2 vs w (es.drop k) = wid2 vs (max w (max (costE vs e.2) (- costE vs e.2))) (es.drop (k + 1)):=by rw [dropP h]; rfl
theorem wid3_cons {vs:List Int} {sts:List St} {w:Int} {s:St} {k:Nat} (h:sts[k]? = some s):wid3 vs w (sts.drop k) = wid3 vs (wid2 vs w s.2) (sts.drop (k + 1)):=by rw [dropP h]; rfl
theorem max3E (ts:Array TypeId) (t:TypeId) (x y z:Int) (W:World):(Builtin.max_ ts t #[I J x,I J y,I J z]).run Tryz.prog W = .ok (I J (max x (max y z))) W:=by
 rw [Go.run_max_int3]
 congr 2
 split <;> split <;> omega
theorem cost_in {F:Fe} (hF:FeR F) {c:Int} (h:c = -1 \/ (0 <= c /\ c < F.vs.length)):-maxV <= costE F.vs c /\ costE F.vs c <= maxV:=by
 unfold costE
 by_cases h1:c = -1
 ·rw [if_pos h1]; unfold maxV; omega
 ·rw [if_neg h1]
  obtain ⟨q,rfl⟩:=Int.eq_ofNat_of_zero_le (show 0 <= c by omega)
  exact hF.vals _ (List.mem_of_getElem? (vAt_get (by omega)))
theorem width_calls {F:Fe} {A:Fx} {b:Nat} (w:World) (h:FcAt w b F A) (hF:FeR F) :
 Calls Tryz.prog 39 #[.pointer (some ⟨b,0,none⟩)] w fun e w'=>e = .returned (I J (widE F.r F.vs)) /\ Below w.heap.size w w':=by
 have HF:Hid (∀ W,Below w.heap.size w W -> FcAt W b F A):=fun W hW=>h.below hW
 have HR:Hid (FeR F):=hF
 have c2:=h.c2
 have hb:=h.lt
 have hsn:=h.subst.short
 have htn:=h.states.short
 unfold maxLen at hsn htn
 obtain ⟨R,hR⟩:∃ R,widE F.r F.vs = R:=⟨_,rfl⟩
 have HE:Hid (max (wid3 F.vs (wid1 F.vs 1 (F.r.subst.drop 0)) F.r.states) (max (vAt F.vs F.r.front) (vAt F.vs F.r.back)) = R):=by rw [List.drop_zero,<- widE_eq]; exact hR
 rw [hR]
 clear h hF hR
 go_enter Tryz.func39,Tryz.ntmps39
 go_wp2
 go_loopw [3,5,16] (fun v _ iv wr=>∃ (q:Nat) (u:Int),q <= A.s.n /\ iv = I J q /\ v = I J u /\ Hid (max (wid3 F.vs (wid1 F.vs u (F.r.subst.drop q)) F.r.states) (max (vAt F.vs F.r.front) (vAt F.vs F.r.back)) = R /\ Below w.heap.size w wr)) (fun _ _ i _=>A.s.n - (intOf i).toNat)
 case atStart=>exact ⟨0,1,Nat.zero_le _,rfl,rfl,HE.out,Below.refl _ _⟩
 case round=>
  clear HE
  obtain ⟨q,u,hq,rfl,rfl,HL⟩:=hrel
  by_cases hlt:q < A.s.n
  ·have hfc:=HF.out wr HL.out.2
   obtain ⟨pl,hpl⟩:∃ d,F.r.subst[q]? = some d:=⟨F.r.subst[q]'(by rw [hfc.subst.length]; exact hlt),List.getElem?_eq_getElem _⟩
   have HQ:Hid (max (wid3 F.vs (wid1 F.vs (max u (max (vAt F.vs pl) (- vAt F.vs pl))) (F.r.subst.drop (q + 1))) F.r.states) (max (vAt F.vs F.r.front) (vAt F.vs F.r.back)) = R /\ Below w.heap.size w wr):=⟨by rw [<- wid1_cons hpl]; exact HL.out.1,HL.out.2⟩
   obtain ⟨gs,os,es,cs⟩:=hfc.subst.isI q pl hpl
   have hpm:=HR.out.places pl (List.mem_of_getElem? hpl)
   obtain ⟨x,rfl⟩:=Int.eq_ofNat_of_zero_le hpm.1
   have hxl:x < F.vs.length:=by omega
   obtain ⟨gv,ov,ev,cv,hgv,hxn,hvn⟩:=hfc.val hxl
   have c2r:=hfc.c2
   have c11:=hfc.c11
   rw [ev] at c11
   rw [es] at c2r c2 ⊢
   have hbr:=hfc.lt
   have hbd:=HR.out.vals _ (List.mem_of_getElem? (vAt_get hxl))
   unfold maxV at hbd
   generalize vAt F.vs (x:Int) = z at *
   have hmx:=fun ts t (W:World)=>max3E ts t u z (-z) W
   clear hfc hpl HL hpm ev es
   go_upto_region 5 with (fail)
   go_quiet (fail)
   go_wp2
   go_roundw
   case rel=>exact ⟨q + 1,max u (max z (-z)),by omega,by go_num,rfl,HQ.out.1,below_dn HQ.out.2 _⟩
   case measure=>simp [intOf]; omega
  ·have HE2:Hid (max (wid3 F.vs u (F.r.states.drop 0)) (max (vAt F.vs F.r.front) (vAt F.vs F.r.back)) = R /\ Below w.heap.size w wr):=by
    have:=HL.out.1
    rw [List.drop_eq_nil_of_le (by rw [(HF.out wr HL.out.2).subst.length]; omega)] at this
    exact ⟨by rw [List.drop_zero]; exact this,HL.out.2⟩
   have hfc:=HF.out wr HL.out.2
   have c10:=hfc.c10
   have hbr:=hfc.lt
   clear HL hfc c2
   go_wp2
   clear c10 hbr
   go_loopw [3,7,9,44] (fun v _ _ iv wr=>∃ (k:Nat) (u:Int),k <= A.t.n /\ iv = I J k /\ v = I J u /\ Hid (max (wid3 F.vs u (F.r.states.drop k)) (max (vAt F.vs F.r.front) (vAt F.vs F.r.back)) = R /\ Below w.heap.size w wr)) (fun _ _ _ i _=>A.t.n - (intOf i).toNat)
   case atStart=>exact ⟨0,u,Nat.zero_le _,rfl,rfl,HE2.out⟩
   case round=>
    clear HE2
    obtain ⟨k,u,hk,rfl,rfl,HL⟩:=hrel
    by_cases hkt:k < A.t.n
    ·have hfc:=HF.out wr HL.out.2
     obtain ⟨⟨kd,es⟩,hst⟩:∃ d,F.r.states[k]? = some d:=⟨F.r.states[k]'(by rw [hfc.states.length]; exact hkt),List.getElem?_eq_getElem _⟩
     obtain ⟨tb,tof,hta,hts⟩:=hfc.states.cells (by omega)
     obtain ⟨ea,en,ec,t0,t1,hpc⟩:=hts k _ hst
     simp only at t0 t1 hpc
     have hen:=hpc.short
     have hel:=hpc.length
     have htb:tb < wr.heap.size:=World.block_lt_of_cell? wr _ t0
     have HPC:Hid (PcsAt wr ea en es):=hpc
     have HQ:Hid (max (wid3 F.vs (wid2 F.vs u (es.drop 0)) (F.r.states.drop (k + 1))) (max (vAt F.vs F.r.front) (vAt F.vs F.r.back)) = R /\ Below w.heap.size w wr):=⟨by rw [List.drop_zero]; have:=HL.out.1; rw [wid3_cons hst] at this; exact this,HL.out.2⟩
     have HM:Hid ((kd,es) ∈ F.r.states):=List.mem_of_getElem? hst
     have ki:decide ((k:Int) < (A.t.n:Int)) = true:=by simp; omega
     rw [hta]
     unfold maxLen at hen
     have HBo:Hid (Below wr.heap.size wr (wr.alloc (.cells #[I J kd,.slice ea en ec] 42))):=(Below.refl _ _).alloc (Nat.le_refl _) _
     clear hfc hst hts hpc HL hta
     go_wp2
     have HB1:Hid (Below w.heap.size w (wr.alloc (.cells #[I J kd,.slice ea en ec] 42))):=HQ.out.2.trans (HBo.out.mono HQ.out.2.size)
     have HP1:Hid (PcsAt (wr.alloc (.cells #[I J kd,.slice ea en ec] 42)) ea en es):=HPC.out.below HBo.out
     generalize wr.alloc (.cells #[I J kd,.slice ea en ec] 42) = w1 at *
     have HQ2:Hid (max (wid3 F.vs (wid2 F.vs u (es.drop 0)) (F.r.states.drop (k + 1))) (max (vAt F.vs F.r.front) (vAt F.vs F.r.back)) = R):=HQ.out.1
     clear HBo HPC HQ t0 t1 htb
     go_loopw [3,9,51] (fun v _ iv wr=>∃ (m:Nat) (u:Int),m <= en /\ iv = I J m /\ v = I J u /\ Hid (max (wid3 F.vs (wid2 F.vs u (es.drop m)) (F.r.states.drop (k + 1))) (max (vAt F.vs F.r.front) (vAt F.vs F.r.back)) = R /\ Below w1.heap.size w1 wr)) (fun _ _ i _=>en - (intOf i).toNat)
     case atStart=>exact ⟨0,u,Nat.zero_le _,rfl,rfl,HQ2.out,Below.refl _ _⟩
     case round=>
      clear HQ2
      obtain ⟨m,u,hm,rfl,rfl,HL⟩:=hrel
      by_cases hme:m < en
      ·obtain ⟨d,hdi⟩:∃ d,es[m]? = some d:=⟨es[m]'(by rw [hel]; exact hme),List.getElem?_eq_getElem _⟩
       obtain ⟨gb,go,rfl,hcs⟩:=(HP1.out.below HL.out.2).cells (by omega)
       obtain ⟨c1,c2⟩:=hcs m d hdi
       have hed:=(HR.out.edges _ HM.out d (List.mem_of_getElem? hdi)).2
       have hci:=cost_in HR.out hed
       obtain ⟨s,c⟩:=d
       simp only at c1 c2 hed hci
       have hcb:gb < wr.heap.size:=World.block_lt_of_cell? wr _ c1
       have HQ:Hid (max (wid3 F.vs (wid2 F.vs (max u (max (costE F.vs c) (- costE F.vs c))) (es.drop (m + 1))) (F.r.states.drop (k + 1))) (max (vAt F.vs F.r.front) (vAt F.vs F.r.back)) = R):=by
        have:=HL.out.1
        rw [wid2_cons hdi] at this
        exact this
       have HC:Hid (∀ W,Below w1.heap.size w1 W -> Calls Tryz.prog 73 #[.pointer (some ⟨b,0,none⟩),.agg #[I J s,I J c]] W fun e w'=>e = .returned (I J (costE F.vs c)) /\ Below W.heap.size W w'):=fun W hW=>cost_calls s c W (HF.out W (HB1.out.trans (hW.mono HB1.out.size))) hed
       have HT:Hid (∀ U V,Below w1.heap.size w1 U -> Below U.heap.size U V -> Below w1.heap.size w1 V):=fun U V h1 h2=>h1.trans (h2.mono h1.size)
       have HBo:Hid (Below wr.heap.size wr (wr.alloc (.cells #[I J s,I J c] 44))):=(Below.refl _ _).alloc (Nat.le_refl _) _
       have HBw:Hid (Below w1.heap.size w1 (wr.alloc (.cells #[I J s,I J c] 44))):=HT.out _ _ HL.out.2 HBo.out
       have e0:(wr.alloc (.cells #[I J s,I J c] 44)).cell? ⟨wr.heap.size,0,none⟩ = some (I J s):=blk (heap_alloc_new wr _) rfl
       have e1:(wr.alloc (.cells #[I J s,I J c] 44)).cell? ⟨wr.heap.size,1,none⟩ = some (I J c):=blk (heap_alloc_new wr _) rfl
       unfold maxV at hci
       clear hcs hdi HL HBo hed
       go_upto_region 13 with (fail)
       generalize wr.alloc (.cells #[I J s,I J c] 44) = w2 at *
       have D0:Hid (Below w1.heap.size w1 w2.drew):=HBw.out.drew
       generalize costE F.vs c = z at *
       have HMx:Hid ((if (if u < z then z else u) < IntKind.i64.wrap (-z) then IntKind.i64.wrap (-z) else if u < z then z else u) = max u (max z (-z))):=by
        show _ = _
        rw [show IntKind.i64.wrap (-z) = -z by rw [IntKind.wrap_i64]; omega]
        split <;> split <;> omega
       go_region_held3 (fun W=>W.cell? ⟨wr.heap.size,0,none⟩ = some (I J s) /\ W.cell? ⟨wr.heap.size,1,none⟩ = some (I J c)) (first | exact ⟨e0,e1⟩ | exact ⟨keepc (Below.refl _ _).drew e0,keepc (Below.refl _ _).drew e1⟩ | exact hk2 | exact hk1) (first
        | (go_at_call 73; refine (HC.out _ (by first | exact HBw.out | exact D0.out)).mono ?_; rintro e V1 ⟨rfl,hv1⟩; have hk1:=And.intro (keepc hv1 e0) (keepc hv1 e1); have HV1:=HT.out _ _ (by first | exact HBw.out | exact D0.out) hv1)
        | (go_at_call 73; refine (HC.out _ HV1).mono ?_; rintro e V2 ⟨rfl,hv2⟩; have hk2:=And.intro (keepc hv2 hk1.1) (keepc hv2 hk1.2); have HV2:=HT.out _ _ HV1 hv2))
       all_goals (
        have HV3:Hid (Below w1.heap.size w1 V2):=HV2
        clear hv1 hv2 hk1 hk2 HV1 HV2 e0 e1
        go_wp2
        go_roundw
        case rel=>exact ⟨m + 1,max u (max z (-z)),by omega,by go_num,by rw [HMx.out],HQ.out,HV3.out⟩
        case measure=>simp [intOf]; omega)
      ·have HE3:Hid (max (wid3 F.vs u (F.r.states.drop (k + 1))) (max (vAt F.vs F.r.front) (vAt F.vs F.r.back)) = R /\ Below w.heap.size w wr):=by
        have:=HL.out.1
        rw [List.drop_eq_nil_of_le (by rw [hel]; omega)] at this
        exact ⟨this,HB1.out.trans (HL.out.2.mono HB1.out.size)⟩
       clear HL
       go_wp2
       go_roundw
       case rel=>exact ⟨k + 1,u,by omega,by go_num,rfl,HE3.out⟩
       case measure=>simp [intOf]; omega
    ·have HE4:Hid (max u (max (vAt F.vs F.r.front) (vAt F.vs F.r.back)) = R /\ Below w.heap.size w wr):=by
      have:=HL.out.1
      rw [List.drop_eq_nil_of_le (by rw [(HF.out wr HL.out.2).states.length]; omega)] at this
      exact ⟨this,HL.out.2⟩
     have hfc:=HF.out wr HL.out.2
     obtain ⟨f0,f1⟩:=HR.out.front
     obtain ⟨b0,b1⟩:=HR.out.back
     have c5:=hfc.c5
     have c6:=hfc.c6
     have c11:=hfc.c11
     obtain ⟨qf,hqf⟩:=Int.eq_ofNat_of_zero_le f0
     obtain ⟨qb,hqb⟩:=Int.eq_ofNat_of_zero_le b0
     rw [hqf] at c5 f1 HE4
     rw [hqb] at c6 b1 HE4
     obtain ⟨g1,o1,e1,v1,hg1,hn1,hvn⟩:=hfc.val (show qf < F.vs.length by omega)
     obtain ⟨g2,o2,e2,v2,hg2,hn2,-⟩:=hfc.val (show qb < F.vs.length by omega)
     rw [e1] at c11 e2
     cases e2
     have hbr:=hfc.lt
     generalize vAt F.vs (qf:Int) = zf at *
     generalize vAt F.vs (qb:Int) = zb at *
     have hmx:=fun ts t (W:World)=>max3E ts t u zf zb W
     clear hfc HL e1 hqf hqb f0 b0 f1 b1
     go_upto_region 16 with (fail)
     go_quiet (fail)
     go_wp2
     go_ret
     exact ⟨by rw [<- HE4.out.1]; rfl,below_dn HE4.out.2 _⟩
theorem wid1_ge {vs:List Int}:∀ {ps:List Int} {w:Int},w <= wid1 vs w ps /\ ∀ p ∈ ps,vAt vs p <= wid1 vs w ps /\ - vAt vs p <= wid1 vs w ps
 | [],w=>⟨Int.le_refl _,fun p hp=>absurd hp (by simp)⟩
 | q :: ps,w=>by
   have ih:=wid1_ge (vs:=vs) (ps:=ps) (w:=max w (max (vAt vs q) (- vAt vs q)))
   show w <= wid1 vs (max w (max (vAt vs q) (- vAt vs q))) ps /\ ∀ p ∈ q :: ps,vAt vs p <= wid1 vs (max w (max (vAt vs q) (- vAt vs q))) ps /\ - vAt vs p <= wid1 vs (max w (max (vAt vs q) (- vAt vs q))) ps
   refine ⟨by have:=ih.1; omega,fun p hp=>?_⟩
   rcases List.mem_cons.1 hp with rfl | hp
   ·have:=ih.1; omega
   ·exact ih.2 p hp
theorem wid2_ge {vs:List Int}:∀ {es:List (Int × Int)} {w:Int},w <= wid2 vs w es /\ ∀ e ∈ es,costE vs e.2 <= wid2 vs w es /\ - costE vs e.2 <= wid2 vs w es
 | [],w=>⟨Int.le_refl _,fun p hp=>absurd hp (by simp)⟩
 | q :: es,w=>by
   have ih:=wid2_ge (vs:=vs) (es:=es) (w:=max w (max (costE vs q.2) (- costE vs q.2)))
   show w <= wid2 vs (max w (max (costE vs q.2) (- costE vs q.2))) es /\ ∀ p ∈ q :: es,costE vs p.2 <= wid2 vs (max w (max (costE vs q.2) (- costE vs q.2))) es /\ - costE vs p.2 <= wid2 vs (max w (max (costE vs q.2) (- costE vs q.2))) es
   refine ⟨by have:=ih.1; omega,fun p hp=>?_⟩
   rcases List.mem_cons.1 hp with rfl | hp
   ·have:=ih.1; omega
   ·exact ih.2 p hp
theorem wid3_ge {vs:List Int}:∀ {sts:List St} {w:Int},w <= wid3 vs w sts /\ ∀ s ∈ sts,∀ e ∈ s.2,costE vs e.2 <= wid3 vs w sts /\ - costE vs e.2 <= wid3 vs w sts
 | [],w=>⟨Int.le_refl _,fun p hp=>absurd hp (by simp)⟩
 | q :: sts,w=>by
   have ih:=wid3_ge (vs:=vs) (sts:=sts) (w:=wid2 vs w q.2)
   have h2:=wid2_ge (vs:=vs) (es:=q.2) (w:=w)
   show w <= wid3 vs (wid2 vs w q.2) sts /\ ∀ s ∈ q :: sts,∀ e ∈ s.2,costE vs e.2 <= wid3 vs (wid2 vs w q.2) sts /\ - costE vs e.2 <= wid3 vs (wid2 vs w q.2) sts
   refine ⟨by have:=ih.1; omega,fun s hs e he=>?_⟩
   rcases List.mem_cons.1 hs with rfl | hs
   ·have:=ih.1; have:=h2.2 e he; omega
   ·exact ih.2 s hs e he
theorem widE_one (r:Rc) (vs:List Int):1 <= widE r vs:=by
 rw [widE_eq]
 have h1:=(wid1_ge (vs:=vs) (ps:=r.subst) (w:=1)).1
 have h3:=(wid3_ge (vs:=vs) (sts:=r.states) (w:=wid1 vs 1 r.subst)).1
 omega
theorem vAt_le {vs:List Int} {W:Int} (h:∀ v ∈ vs,-W <= v /\ v <= W) (h0:0 <= W) (p:Int):-W <= vAt vs p /\ vAt vs p <= W:=by
 unfold vAt
 rw [List.getD_eq_getElem?_getD]
 cases hp:vs[p.toNat]? with
 | none=>simp; omega
 | some v=>exact h v (List.mem_of_getElem? hp)
theorem costE_le {vs:List Int} {W:Int} (h:∀ v ∈ vs,-W <= v /\ v <= W) (h0:0 <= W) (c:Int):-W <= costE vs c /\ costE vs c <= W:=by
 unfold costE
 split
 ·omega
 ·exact vAt_le h h0 c
theorem wid1_le {vs:List Int} {W:Int} (h:∀ v ∈ vs,-W <= v /\ v <= W) (h0:0 <= W):∀ {ps:List Int} {w:Int},w <= W -> wid1 vs w ps <= W
 | [],w,hw=>hw
 | q :: ps,w,hw=>wid1_le h h0 (ps:=ps) (by have:=vAt_le h h0 q; show max w (max (vAt vs q) (- vAt vs q)) <= W; omega)
theorem wid2_le {vs:List Int} {W:Int} (h:∀ v ∈ vs,-W <= v /\ v <= W) (h0:0 <= W):∀ {es:List (Int × Int)} {w:Int},w <= W -> wid2 vs w es <= W
 | [],w,hw=>hw
 | q :: es,w,hw=>wid2_le h h0 (es:=es) (by have:=costE_le h h0 q.2; show max w (max (costE vs q.2) (- costE vs q.2)) <= W; omega)
theorem wid3_le {vs:List Int} {W:Int} (h:∀ v ∈ vs,-W <= v /\ v <= W) (h0:0 <= W):∀ {sts:List St} {w:Int},w <= W -> wid3 vs w sts <= W
 | [],_,hw=>hw
 | _ :: sts,_,hw=>wid3_le h h0 (sts:=sts) (wid2_le h h0 hw)
theorem widE_le {r:Rc} {vs:List Int} {W:Int} (h:∀ v ∈ vs,-W <= v /\ v <= W) (h1:1 <= W):widE r vs <= W:=by
 rw [widE_eq]
 have:=wid3_le h (by omega) (sts:=r.states) (wid1_le h (by omega) (ps:=r.subst) h1)
 have:=vAt_le h (by omega) r.front
 have:=vAt_le h (by omega) r.back
 omega
theorem edgesB_mem {m n:Int}:∀ {es:List (Int × Int)} {least:Int},edgesB m n least es = true -> ∀ e ∈ es,(least <= e.1 /\ e.1 < m) /\ (e.2 = -1 \/ (0 <= e.2 /\ e.2 < n))
 | [],_,_,e,he=>absurd he (by simp)
 | d :: r,least,h,e,he=>by
   simp only [edgesB,Bool.and_eq_true,Bool.or_eq_true,decide_eq_true_eq,inI_iff] at h
   rcases List.mem_cons.1 he with rfl | he
   ·omega
   ·have:=edgesB_mem h.2 e he
    omega
theorem right_fe {r:Rc} {xs ys:List Int} (h:rightR r = true) (hx:letsE r.letters xs = true) (hy:letsE r.letters ys = true):FeR (feOf r xs ys):=by
 unfold rightR substR endsR statesR at h
 simp only [Bool.and_eq_true,decide_eq_true_eq,inI_iff] at h
 obtain ⟨h1,⟨h2,h3,h4⟩,⟨h5,h6,h7,h8,h9⟩,h10,h11,h12⟩:=h
 have hvl:=(valsB_len r.defs h1).1
 have hpl:∀ p ∈ r.subst,0 <= p /\ p < (valsB r.defs).1.length:=fun p hp=>by
  have:=inI_iff.1 (List.all_eq_true.1 h4 p hp)
  omega
 have hfb:(0 <= r.front /\ r.front < (valsB r.defs).1.length) /\ (0 <= r.back /\ r.back < (valsB r.defs).1.length):=by
  simp only [placesB,List.all_cons,List.all_nil,Bool.and_true,Bool.and_eq_true,inI_iff] at h7
  omega
 have hst:∀ st ∈ r.states,(1 <= st.1 /\ st.1 <= 3) /\ edgesB r.states.length r.defs.length (-1) st.2 = true:=fun st hs=>by
  have:=List.all_eq_true.1 h12 st hs
  unfold stateB at this
  simp only [Bool.and_eq_true,inI_iff] at this
  exact this
 refine ⟨h2.1,h2.2,h3,hpl,hfb.1,hfb.2,h11,fun st hs=>(hst st hs).1,fun st hs e he=>?_,letsE_mem hx,letsE_mem hy,valsB_in r.defs⟩
 have:=edgesB_mem (hst st hs).2 e he
 refine ⟨this.1,?_⟩
 show e.2 = -1 \/ (0 <= e.2 /\ e.2 < ((valsB r.defs).1.length:Int))
 rw [hvl]
 exact this.2
theorem right_ends {r:Rc} (h:rightR r = true):0 <= vAt (valsB r.defs).1 r.front /\ 0 <= vAt (valsB r.defs).1 r.back:=by
 unfold rightR endsR at h
 simp only [Bool.and_eq_true,decide_eq_true_eq] at h
 exact ⟨h.2.2.1.2.2.2.1,h.2.2.1.2.2.2.2⟩
/-- What the error 0 says. -/
theorem err_ok {r:Rc} {xs ys:List Int} (h:errE r xs ys = 0):rightR r = true /\ FeOk (feOf r xs ys) /\ BdE (feOf r xs ys) (widE r (valsB r.defs).1):=by
 unfold errE at h
 split at h
 ·cases h
 ·next h1=>
  have h1:rightR r = true:=by simpa using h1
  split at h
  ·cases h
  ·next h2=>
   have hx:letsE r.letters xs = true:=by cases hl:letsE r.letters xs <;> simp_all
   have hy:letsE r.letters ys = true:=by cases hl:letsE r.letters ys <;> simp_all
   split at h
   ·cases h
   ·next h3=>
    split at h
    ·cases h
    ·next h4=>
     have hF:=right_fe h1 hx hy
     have hw:=widE_one r (valsB r.defs).1
     have hcl:(xs.length + 1) * (ys.length + 1) <= 1048576:=by
      have:((xs.length:Int) + 1) * ((ys.length:Int) + 1) = (((xs.length + 1) * (ys.length + 1):Nat):Int):=by simp
      rw [this] at h4
      omega
     refine ⟨h1,⟨hF,?_,?_,hcl⟩,⟨hw,?_,?_,?_,?_,?_⟩⟩
     ·show xs.length <= 65536; omega
     ·show ys.length <= 65536; omega
     ·show widE r (valsB r.defs).1 * ((xs.length:Int) + ys.length + 4) <= 4611686018427387904
      have h5:(xs.length:Int) + ys.length + 4 <= 4611686018427387904 / widE r (valsB r.defs).1:=by omega
      have h6:=Int.mul_le_mul_of_nonneg_left h5 (show 0 <= widE r (valsB r.defs).1 by omega)
      have h7:=Int.mul_ediv_self_le (x:=4611686018427387904) (k:=widE r (valsB r.defs).1) (by omega)
      omega
     ·intro st hs e he
      have h5:=(wid3_ge (vs:=(valsB r.defs).1) (sts:=r.states) (w:=wid1 (valsB r.defs).1 1 r.subst)).2 st hs e he
      rw [widE_eq]
      show -_ <= costE (valsB r.defs).1 e.2 /\ costE (valsB r.defs).1 e.2 <= _
      omega
     ·intro i j hi0 hi hj0 hj
      have hi':i <= xs.length:=hi
      have hj':j <= ys.length:=hj
      unfold subE
      have h5:vAt r.subst (r.letters * vAt xs (i - 1) + vAt ys (j - 1)) ∈ r.subst:=by
       obtain ⟨a,ha⟩:=Int.eq_ofNat_of_zero_le (show 0 <= i - 1 by omega)
       obtain ⟨b,hb⟩:=Int.eq_ofNat_of_zero_le (show 0 <= j - 1 by omega)
       have hxa:=hF.xs _ (List.mem_of_getElem? (vAt_get (vs:=xs) (i:=a) (by omega)))
       have hyb:=hF.ys _ (List.mem_of_getElem? (vAt_get (vs:=ys) (i:=b) (by omega)))
       rw [ha,hb]
       generalize vAt xs (a:Int) = x at *
       generalize vAt ys (b:Int) = y at *
       have l1:r.letters * x <= r.letters * (r.letters - 1):=Int.mul_le_mul_of_nonneg_left (by have:x < r.letters:=hxa.2; omega) (by have:=hF.lo; have:2 <= r.letters:=this; omega)
       have l2:r.letters * (r.letters - 1) = r.letters * r.letters - r.letters:=by rw [Int.mul_sub]; omega
       have l3:0 <= r.letters * x:=Int.mul_nonneg (by have:2 <= r.letters:=hF.lo; omega) hxa.1
       have l4:(r.subst.length:Int) = r.letters * r.letters:=hF.count
       have l5:y < r.letters:=hyb.2
       have l6:=hyb.1
       obtain ⟨ix,hix⟩:=Int.eq_ofNat_of_zero_le (show 0 <= r.letters * x + y by omega)
       rw [hix]
       exact List.mem_of_getElem? (vAt_get (by omega))
      have h6:=(wid1_ge (vs:=(valsB r.defs).1) (ps:=r.subst) (w:=1)).2 _ h5
      have h7:=(wid3_ge (vs:=(valsB r.defs).1) (sts:=r.states) (w:=wid1 (valsB r.defs).1 1 r.subst)).1
      rw [widE_eq]
      show -_ <= vAt (valsB r.defs).1 (vAt r.subst (r.letters * vAt xs (i - 1) + vAt ys (j - 1))) /\ vAt (valsB r.defs).1 (vAt r.subst (r.letters * vAt xs (i - 1) + vAt ys (j - 1))) <= _
      omega
     ·refine ⟨(right_ends h1).1,?_⟩
      rw [widE_eq]
      show vAt (valsB r.defs).1 r.front <= _
      omega
     ·refine ⟨(right_ends h1).2,?_⟩
      rw [widE_eq]
      show vAt (valsB r.defs).1 r.back <= _
      omega
set_option maxRecDepth 20000
set_option maxHeartbeats 8000000
def zer14:Array Value:=#[I J 0,.slice none 0 0,.slice none 0 0,I J 0,I J 0,I J 0,I J 0,.bool false,I J 0,I J 0,.slice none 0 0,.slice none 0 0,.slice none 0 0,.slice none 0 0]
def feCells (F:Fe) (A:Fx):Array Value:=#[I J F.r.letters,.slice A.d.a A.d.n A.d.c,.slice A.s.a A.s.n A.s.c,I J F.r.beg,I J F.r.fin,I J F.r.front,I J F.r.back,.bool F.r.banded,I J F.r.lo,I J F.r.hi,.slice A.t.a A.t.n A.t.c,.slice A.v.a A.v.n A.v.c,.slice A.x.a A.x.n A.x.c,.slice A.y.a A.y.n A.y.c]
/-- The box of the recurrence, and the result's. -/
structure Fob (w:World) (cs:Array Value) (W:World):Prop where
 low:Below w.heap.size w W
 box:W.heap[w.heap.size]? = some (.cells cs 26 (0,0))
 res:W.heap[w.heap.size + 1]? = some (.cells zer14 63 (0,0))
theorem Fob.next {w W V:World} {cs:Array Value} (h:Fob w cs W) (hb:Below W.heap.size W V):Fob w cs V:=
 ⟨h.low.trans (hb.mono h.low.size),by rw [hb.block _ (lt_block h.box)]; exact h.box,by rw [hb.block _ (lt_block h.res)]; exact h.res⟩
theorem Fob.start (w:World) (cs:Array Value):Fob w cs ((w.alloc (.cells cs 26)).alloc (.cells zer14 63)):=by
 have hb:=((Below.refl (w.alloc (.cells cs 26)).heap.size (w.alloc (.cells cs 26))).alloc (Nat.le_refl _) (.cells zer14 63))
 refine ⟨((Below.refl _ _).alloc (Nat.le_refl _) _).alloc (by simp) _,?_,?_⟩
 ·rw [hb.block _ (by simp)]; exact heap_alloc_new w _
 ·have:=heap_alloc_new (w.alloc (.cells cs 26)) (.cells zer14 63)
  rw [show (w.alloc (.cells cs 26)).heap.size = w.heap.size + 1 by simp] at this
  exact this
theorem Fob.cells {w W:World} {cs:Array Value} (h:Fob w cs W):W.cell? ⟨w.heap.size + 1,0,none⟩ = some (I J 0) /\ W.cell? ⟨w.heap.size + 1,1,none⟩ = some (.slice none 0 0) /\ W.cell? ⟨w.heap.size + 1,2,none⟩ = some (.slice none 0 0) /\ W.cell? ⟨w.heap.size + 1,3,none⟩ = some (I J 0) /\ W.cell? ⟨w.heap.size + 1,4,none⟩ = some (I J 0) /\ W.cell? ⟨w.heap.size + 1,5,none⟩ = some (I J 0) /\ W.cell? ⟨w.heap.size + 1,6,none⟩ = some (I J 0) /\ W.cell? ⟨w.heap.size + 1,7,none⟩ = some (.bool false) /\ W.cell? ⟨w.heap.size + 1,8,none⟩ = some (I J 0) /\ W.cell? ⟨w.heap.size + 1,9,none⟩ = some (I J 0) /\ W.cell? ⟨w.heap.size + 1,10,none⟩ = some (.slice none 0 0) /\ W.cell? ⟨w.heap.size + 1,11,none⟩ = some (.slice none 0 0) /\ W.cell? ⟨w.heap.size + 1,12,none⟩ = some (.slice none 0 0) /\ W.cell? ⟨w.heap.size + 1,13,none⟩ = some (.slice none 0 0) /\ ∀ i,W.frozen? ⟨w.heap.size + 1,i,none⟩ = false:=
 ⟨blk h.res rfl,blk h.res rfl,blk h.res rfl,blk h.res rfl,blk h.res rfl,blk h.res rfl,blk h.res rfl,blk h.res rfl,blk h.res rfl,blk h.res rfl,blk h.res rfl,blk h.res rfl,blk h.res rfl,blk h.res rfl,fun i=>blkf i h.res⟩
theorem below14 {w0 W:World} {g:Nat} (h:Below w0.heap.size w0 W) (hg:w0.heap.size <= g) (v0 v1 v2 v3 v4 v5 v6 v7 v8 v9 v10 v11 v12 v13:Value):Below w0.heap.size w0 ((((((((((((((W.setCell ⟨g,0,none⟩ v0).setCell ⟨g,1,none⟩ v1).setCell ⟨g,2,none⟩ v2).setCell ⟨g,3,none⟩ v3).setCell ⟨g,4,none⟩ v4).setCell ⟨g,5,none⟩ v5).setCell ⟨g,6,none⟩ v6).setCell ⟨g,7,none⟩ v7).setCell ⟨g,8,none⟩ v8).setCell ⟨g,9,none⟩ v9).setCell ⟨g,10,none⟩ v10).setCell ⟨g,11,none⟩ v11).setCell ⟨g,12,none⟩ v12).setCell ⟨g,13,none⟩ v13):=
 below_set (below_set (below_set (below_set (below_set (below_set (below_set (below_set (below_set (below_set (below_set (below_set (below_set (below_set (h) hg v0) hg v1) hg v2) hg v3) hg v4) hg v5) hg v6) hg v7) hg v8) hg v9) hg v10) hg v11) hg v12) hg v13
theorem own14 {W:World} {B e n g m:Nat} {v:Value} {l:List Value} (h:W.ownsRow B e n v m l) (hg:g < B) (v0 v1 v2 v3 v4 v5 v6 v7 v8 v9 v10 v11 v12 v13:Value):((((((((((((((W.setCell ⟨g,0,none⟩ v0).setCell ⟨g,1,none⟩ v1).setCell ⟨g,2,none⟩ v2).setCell ⟨g,3,none⟩ v3).setCell ⟨g,4,none⟩ v4).setCell ⟨g,5,none⟩ v5).setCell ⟨g,6,none⟩ v6).setCell ⟨g,7,none⟩ v7).setCell ⟨g,8,none⟩ v8).setCell ⟨g,9,none⟩ v9).setCell ⟨g,10,none⟩ v10).setCell ⟨g,11,none⟩ v11).setCell ⟨g,12,none⟩ v12).setCell ⟨g,13,none⟩ v13).ownsRow B e n v m l:=
 ownsRow_setCell_below (ownsRow_setCell_below (ownsRow_setCell_below (ownsRow_setCell_below (ownsRow_setCell_below (ownsRow_setCell_below (ownsRow_setCell_below (ownsRow_setCell_below (ownsRow_setCell_below (ownsRow_setCell_below (ownsRow_setCell_below (ownsRow_setCell_below (ownsRow_setCell_below (ownsRow_setCell_below (h) (a:=⟨g,0,none⟩) hg v0) (a:=⟨g,1,none⟩) hg v1) (a:=⟨g,2,none⟩) hg v2) (a:=⟨g,3,none⟩) hg v3) (a:=⟨g,4,none⟩) hg v4) (a:=⟨g,5,none⟩) hg v5) (a:=⟨g,6,none⟩) hg v6) (a:=⟨g,7,none⟩) hg v7) (a:=⟨g,8,none⟩) hg v8) (a:=⟨g,9,none⟩) hg v9) (a:=⟨g,10,none⟩) hg v10) (a:=⟨g,11,none⟩) hg v11) (a:=⟨g,12,none⟩) hg v12) (a:=⟨g,13,none⟩) hg v13
def FoPost (r:Rc) (d s t x y:Sq) (xs ys:List Int) (w:World) (e:Ending) (w':World):Prop:=
 (errE r xs ys ≠ 0 /\ e = .returned (.tuple #[.agg zer14,I J (errE r xs ys)]) /\ Below w.heap.size w w') \/
 (errE r xs ys = 0 /\ ∃ v:Sq,v.n = (valsB r.defs).1.length /\ e = .returned (.tuple #[.agg (feCells (feOf r xs ys) ⟨d,s,t,v,x,y⟩),I J 0]) /\ Below w.heap.size w w' /\ w'.ownsRow w.heap.size 3 1 (.slice v.a v.n v.c) v.n (itRow (valsB r.defs).1))
theorem fieldOf_calls (r:Rc) (d s t x y:Sq) (xs ys:List Int) (w:World) (hr:RcAt w r d.a d.n s.a s.n t.a t.n) (hx:IntA w x.a x.n xs) (hy:IntA w y.a y.n ys) :
 Calls Tryz.prog 17 #[.agg (rcCells r d.a d.n d.c s.a s.n s.c t.a t.n t.c),.slice x.a x.n x.c,.slice y.a y.n y.c] w fun e w'=>FoPost r d s t x y xs ys w e w':=by
 have hres:Tryz.f17.results = #[.cell 6 63,.tmp 7]:=by kernel_rfl
 have hxn:=hx.short
 have hyn:=hy.short
 have hxl:=hx.length
 have hyl:=hy.length
 have hfew:=valsB_few r.defs
 have HX:Hid (∀ k:Int,errE r xs ys = k -> k ≠ 0 -> ∀ W,Below w.heap.size w W -> FoPost r d s t x y xs ys w (.returned (.tuple #[.agg #[I J 0,.slice none 0 0,.slice none 0 0,I J 0,I J 0,I J 0,I J 0,.bool false,I J 0,I J 0,.slice none 0 0,.slice none 0 0,.slice none 0 0,.slice none 0 0],I J k])) W):=fun k hk h0 W hW=>.inl ⟨by rw [hk]; exact h0,by rw [hk]; rfl,hW⟩
 have HV:Hid (∀ W,Below w.heap.size w W -> Calls Tryz.prog 36 #[.slice d.a d.n d.c] W fun e w'=>ValPost (valsB r.defs) W e w'):=fun W hW=>values_calls r.defs d.a d.n d.c W (hr.defs.below hW)
 have HRg:Hid (∀ W,Below w.heap.size w W -> Calls Tryz.prog 37 #[.agg #[I J r.letters,.slice d.a d.n d.c,.slice s.a s.n s.c,I J r.beg,I J r.fin,I J r.front,I J r.back,.bool r.banded,I J r.lo,I J r.hi,.slice t.a t.n t.c]] W fun e w'=>e = .returned (.bool (rightR r)) /\ Below W.heap.size W w'):=fun W hW=>rightR_calls r d.a d.n d.c s.a s.n s.c t.a t.n t.c W (hr.below hW)
 have HLx:Hid (∀ W,Below w.heap.size w W -> Calls Tryz.prog 38 #[I J r.letters,.slice x.a x.n x.c] W fun e w'=>e = .returned (.bool (letsE r.letters xs)) /\ W = w'):=fun W hW=>areLetters_calls r.letters xs x.a x.n x.c W (hx.below hW)
 have HLy:Hid (∀ W,Below w.heap.size w W -> Calls Tryz.prog 38 #[I J r.letters,.slice y.a y.n y.c] W fun e w'=>e = .returned (.bool (letsE r.letters ys)) /\ W = w'):=fun W hW=>areLetters_calls r.letters ys y.a y.n y.c W (hy.below hW)
 have HM:Hid (∀ W,Below w.heap.size w W -> IntA W s.a s.n r.subst /\ StsAt W t.a t.n r.states /\ IntA W x.a x.n xs /\ IntA W y.a y.n ys):=fun W hW=>⟨hr.subst.below hW,hr.states.below hW,hx.below hW,hy.below hW⟩
 have HS:Hid (Fob w #[I J r.letters,.slice d.a d.n d.c,.slice s.a s.n s.c,I J r.beg,I J r.fin,I J r.front,I J r.back,.bool r.banded,I J r.lo,I J r.hi,.slice t.a t.n t.c] ((w.alloc (.cells #[I J r.letters,.slice d.a d.n d.c,.slice s.a s.n s.c,I J r.beg,I J r.fin,I J r.front,I J r.back,.bool r.banded,I J r.lo,I J r.hi,.slice t.a t.n t.c] 26)).alloc (.cells zer14 63))):=Fob.start w _
 have HE:Hid (errE r xs ys = if rightR r = false then 120 else if letsE r.letters xs = false \/ letsE r.letters ys = false then 11 else if 65536 < max (x.n:Int) y.n \/ 4611686018427387904 / widE r (valsB r.defs).1 < (x.n:Int) + y.n + 4 then 170 else if 1048576 < ((x.n:Int) + 1) * ((y.n:Int) + 1) then 131 else 0):=by
  show _ = _
  unfold errE
  rw [hxl,hyl]
 have HFr:Hid (rightR r = true -> letsE r.letters xs = true -> letsE r.letters ys = true -> FeR (feOf r xs ys)):=fun h1 h2 h3=>right_fe h1 h2 h3
 have HEr:Hid (rightR r = true -> (valsB r.defs).2 = 0):=fun h=>by unfold rightR at h; simp only [Bool.and_eq_true,decide_eq_true_eq] at h; exact h.1
 unfold maxLen at hxn hyn
 unfold zer14 at HS
 unfold rcCells
 clear hr hx hy hxl hyl
 go_enter Tryz.func17,Tryz.ntmps17
 go_wp2_with fail
 refine (HV.out _ HS.out.low).mono ?_
 rintro e w1 ⟨vo,vc,rfl,hown,hb1⟩
 have HO:Hid (Fob w #[I J r.letters,.slice d.a d.n d.c,.slice s.a s.n s.c,I J r.beg,I J r.fin,I J r.front,I J r.back,.bool r.banded,I J r.lo,I J r.hi,.slice t.a t.n t.c] w1):=HS.out.next hb1
 have HW:Hid (w1.ownsRow (w.heap.size + 2) 3 1 (.slice vo (valsB r.defs).1.length vc) (valsB r.defs).1.length (itRow (valsB r.defs).1)):=by
  have:=hown
  rw [show ((w.alloc (.cells #[I J r.letters,.slice d.a d.n d.c,.slice s.a s.n s.c,I J r.beg,I J r.fin,I J r.front,I J r.back,.bool r.banded,I J r.lo,I J r.hi,.slice t.a t.n t.c] 26)).alloc (.cells #[I J 0,.slice none 0 0,.slice none 0 0,I J 0,I J 0,I J 0,I J 0,.bool false,I J 0,I J 0,.slice none 0 0,.slice none 0 0,.slice none 0 0,.slice none 0 0] 63)).heap.size = w.heap.size + 2 by simp] at this
  exact this
 clear HS HV hown hb1
 have c0:w1.cell? ⟨w.heap.size,0,none⟩ = some (I J r.letters):=blk HO.out.box rfl
 have c1:w1.cell? ⟨w.heap.size,1,none⟩ = some (.slice d.a d.n d.c):=blk HO.out.box rfl
 have c2:w1.cell? ⟨w.heap.size,2,none⟩ = some (.slice s.a s.n s.c):=blk HO.out.box rfl
 have c3:w1.cell? ⟨w.heap.size,3,none⟩ = some (I J r.beg):=blk HO.out.box rfl
 have c4:w1.cell? ⟨w.heap.size,4,none⟩ = some (I J r.fin):=blk HO.out.box rfl
 have c5:w1.cell? ⟨w.heap.size,5,none⟩ = some (I J r.front):=blk HO.out.box rfl
 have c6:w1.cell? ⟨w.heap.size,6,none⟩ = some (I J r.back):=blk HO.out.box rfl
 have c7:w1.cell? ⟨w.heap.size,7,none⟩ = some (.bool r.banded):=blk HO.out.box rfl
 have c8:w1.cell? ⟨w.heap.size,8,none⟩ = some (I J r.lo):=blk HO.out.box rfl
 have c9:w1.cell? ⟨w.heap.size,9,none⟩ = some (I J r.hi):=blk HO.out.box rfl
 have c10:w1.cell? ⟨w.heap.size,10,none⟩ = some (.slice t.a t.n t.c):=blk HO.out.box rfl
 have hw1:w.heap.size < w1.heap.size:=lt_block HO.out.box
 generalize hver:(valsB r.defs).2 = er at *
 by_cases hz:er = 0
 ·subst hz
  have n0:((0:Int) != 0) = false:=rfl
  go_wp2_with fail
  refine (HRg.out w1 HO.out.low).mono ?_
  rintro e w2 ⟨rfl,hb2⟩
  have HO2:Hid (Fob w #[I J r.letters,.slice d.a d.n d.c,.slice s.a s.n s.c,I J r.beg,I J r.fin,I J r.front,I J r.back,.bool r.banded,I J r.lo,I J r.hi,.slice t.a t.n t.c] w2):=HO.out.next hb2
  have HW2:Hid (w2.ownsRow (w.heap.size + 2) 3 1 (.slice vo (valsB r.defs).1.length vc) (valsB r.defs).1.length (itRow (valsB r.defs).1)):=owned_below HW.out hb2
  clear HO HW HRg hb2 c0 c1 c2 c3 c4 c5 c6 c7 c8 c9 c10 hw1
  have HO:=HO2
  clear HO2
  have HW:=HW2
  clear HW2
  cases hrr:rightR r with
  | false=>
    have hE:Hid (errE r xs ys = 120):=by show _ = _; rw [HE.out,if_pos hrr]
    clear hrr HE
    obtain ⟨r0,r1,r2,r3,r4,r5,r6,r7,r8,r9,r10,r11,r12,r13,rf⟩:=HO.out.cells
    go_wp2
    refine bodyPost_ret (v:=.tuple #[.agg #[I J 0,.slice none 0 0,.slice none 0 0,I J 0,I J 0,I J 0,I J 0,.bool false,I J 0,I J 0,.slice none 0 0,.slice none 0 0,.slice none 0 0,.slice none 0 0],I J 120]) ?_ rfl ?_
    ·simp only [results,hres]
     go_simp
    ·exact HX.out 120 hE.out (by omega) _ (below14 HO.out.low (by omega) _ _ _ _ _ _ _ _ _ _ _ _ _ _)
  | true=>
    have HE2:=HE.out
    rw [if_neg (by rw [hrr]; simp)] at HE2
    have HFr2:=HFr.out hrr
    clear hrr HE
    have c0:w2.cell? ⟨w.heap.size,0,none⟩ = some (I J r.letters):=blk HO.out.box rfl
    have c1:w2.cell? ⟨w.heap.size,1,none⟩ = some (.slice d.a d.n d.c):=blk HO.out.box rfl
    have c2:w2.cell? ⟨w.heap.size,2,none⟩ = some (.slice s.a s.n s.c):=blk HO.out.box rfl
    have c3:w2.cell? ⟨w.heap.size,3,none⟩ = some (I J r.beg):=blk HO.out.box rfl
    have c4:w2.cell? ⟨w.heap.size,4,none⟩ = some (I J r.fin):=blk HO.out.box rfl
    have c5:w2.cell? ⟨w.heap.size,5,none⟩ = some (I J r.front):=blk HO.out.box rfl
    have c6:w2.cell? ⟨w.heap.size,6,none⟩ = some (I J r.back):=blk HO.out.box rfl
    have c7:w2.cell? ⟨w.heap.size,7,none⟩ = some (.bool r.banded):=blk HO.out.box rfl
    have c8:w2.cell? ⟨w.heap.size,8,none⟩ = some (I J r.lo):=blk HO.out.box rfl
    have c9:w2.cell? ⟨w.heap.size,9,none⟩ = some (I J r.hi):=blk HO.out.box rfl
    have c10:w2.cell? ⟨w.heap.size,10,none⟩ = some (.slice t.a t.n t.c):=blk HO.out.box rfl
    have hw2:w.heap.size < w2.heap.size:=lt_block HO.out.box
    go_wp2_with fail
    refine (HLx.out w2 HO.out.low).mono ?_
    rintro e w3 ⟨rfl,rfl⟩
    cases hlx:letsE r.letters xs with
    | false=>
      have hE:Hid (errE r xs ys = 11):=by show _ = _; rw [HE2,if_pos (.inl hlx)]
      clear HE2 hlx HFr2
      obtain ⟨r0,r1,r2,r3,r4,r5,r6,r7,r8,r9,r10,r11,r12,r13,rf⟩:=HO.out.cells
      go_wp2
      refine bodyPost_ret (v:=.tuple #[.agg #[I J 0,.slice none 0 0,.slice none 0 0,I J 0,I J 0,I J 0,I J 0,.bool false,I J 0,I J 0,.slice none 0 0,.slice none 0 0,.slice none 0 0,.slice none 0 0],I J 11]) ?_ rfl ?_
      ·simp only [results,hres]
       go_simp
      ·exact HX.out 11 hE.out (by omega) _ (below14 HO.out.low (by omega) _ _ _ _ _ _ _ _ _ _ _ _ _ _)
    | true=>
      have HFr3:=HFr2 hlx
      go_wp2_with fail
      refine (HLy.out w2 HO.out.low).mono ?_
      rintro e w3 ⟨rfl,rfl⟩
      cases hly:letsE r.letters ys with
      | false=>
        have hE:Hid (errE r xs ys = 11):=by show _ = _; rw [HE2,if_pos (.inr hly)]
        clear HE2 hlx hly HFr3 HFr2
        obtain ⟨r0,r1,r2,r3,r4,r5,r6,r7,r8,r9,r10,r11,r12,r13,rf⟩:=HO.out.cells
        go_wp2
        refine bodyPost_ret (v:=.tuple #[.agg #[I J 0,.slice none 0 0,.slice none 0 0,I J 0,I J 0,I J 0,I J 0,.bool false,I J 0,I J 0,.slice none 0 0,.slice none 0 0,.slice none 0 0,.slice none 0 0],I J 11]) ?_ rfl ?_
        ·simp only [results,hres]
         go_simp
        ·exact HX.out 11 hE.out (by omega) _ (below14 HO.out.low (by omega) _ _ _ _ _ _ _ _ _ _ _ _ _ _)
      | true=>
        have HE3:Hid (errE r xs ys = if 65536 < max (x.n:Int) y.n \/ 4611686018427387904 / widE r (valsB r.defs).1 < (x.n:Int) + y.n + 4 then 170 else if 1048576 < ((x.n:Int) + 1) * ((y.n:Int) + 1) then 131 else 0):=by
         show _ = _
         rw [HE2,if_neg (by rw [hlx,hly]; simp)]
        have HR3:Hid (FeR (feOf r xs ys)):=HFr3 hly
        clear HE2 hlx hly HFr3 HFr2 HLx HLy
        have HO2:Hid (Fob w #[I J r.letters,.slice d.a d.n d.c,.slice s.a s.n s.c,I J r.beg,I J r.fin,I J r.front,I J r.back,.bool r.banded,I J r.lo,I J r.hi,.slice t.a t.n t.c] (w2.alloc (.cells #[I J r.letters,.slice d.a d.n d.c,.slice s.a s.n s.c,I J r.beg,I J r.fin,I J r.front,I J r.back,.bool r.banded,I J r.lo,I J r.hi,.slice t.a t.n t.c,.slice vo (valsB r.defs).1.length vc,.slice x.a x.n x.c,.slice y.a y.n y.c] 63))):=HO.out.next ((Below.refl _ _).alloc (Nat.le_refl _) _)
        have HW2:Hid ((w2.alloc (.cells #[I J r.letters,.slice d.a d.n d.c,.slice s.a s.n s.c,I J r.beg,I J r.fin,I J r.front,I J r.back,.bool r.banded,I J r.lo,I J r.hi,.slice t.a t.n t.c,.slice vo (valsB r.defs).1.length vc,.slice x.a x.n x.c,.slice y.a y.n y.c] 63)).ownsRow (w.heap.size + 2) 3 1 (.slice vo (valsB r.defs).1.length vc) (valsB r.defs).1.length (itRow (valsB r.defs).1)):=owned_below HW.out ((Below.refl _ _).alloc (Nat.le_refl _) _)
        by_cases hmx:65536 < max (x.n:Int) (y.n:Int)
        ·have k1:decide ((65536:Int) < max (x.n:Int) (y.n:Int)) = true:=by simpa using hmx
         have hE:Hid (errE r xs ys = 170):=by show _ = _; rw [HE3.out,if_pos (.inl hmx)]
         obtain ⟨r0,r1,r2,r3,r4,r5,r6,r7,r8,r9,r10,r11,r12,r13,rf⟩:=HO2.out.cells
         go_wp2
         refine bodyPost_ret (v:=.tuple #[.agg #[I J 0,.slice none 0 0,.slice none 0 0,I J 0,I J 0,I J 0,I J 0,.bool false,I J 0,I J 0,.slice none 0 0,.slice none 0 0,.slice none 0 0,.slice none 0 0],I J 170]) ?_ rfl ?_
         ·simp only [results,hres]
          go_simp
         ·exact HX.out 170 hE.out (by omega) _ (below14 HO2.out.low (by omega) _ _ _ _ _ _ _ _ _ _ _ _ _ _)
        ·have k1:decide ((65536:Int) < max (x.n:Int) (y.n:Int)) = false:=by simpa using hmx
         have hx6:x.n <= 65536:=by omega
         have hy6:y.n <= 65536:=by omega
         have HE4:Hid (errE r xs ys = if 4611686018427387904 / widE r (valsB r.defs).1 < (x.n:Int) + y.n + 4 then 170 else if 1048576 < ((x.n:Int) + 1) * ((y.n:Int) + 1) then 131 else 0):=by
          show _ = _
          rw [HE3.out]
          by_cases hq:4611686018427387904 / widE r (valsB r.defs).1 < (x.n:Int) + y.n + 4
          ·rw [if_pos (.inr hq),if_pos hq]
          ·rw [if_neg (fun h=>h.elim hmx hq),if_neg hq]
         have HWd:Hid (Calls Tryz.prog 39 #[.pointer (some ⟨w2.heap.size,0,none⟩)] (w2.alloc (.cells #[I J r.letters,.slice d.a d.n d.c,.slice s.a s.n s.c,I J r.beg,I J r.fin,I J r.front,I J r.back,.bool r.banded,I J r.lo,I J r.hi,.slice t.a t.n t.c,.slice vo (valsB r.defs).1.length vc,.slice x.a x.n x.c,.slice y.a y.n y.c] 63)) fun e w'=>e = .returned (I J (widE r (valsB r.defs).1)) /\ Below (w2.alloc (.cells #[I J r.letters,.slice d.a d.n d.c,.slice s.a s.n s.c,I J r.beg,I J r.fin,I J r.front,I J r.back,.bool r.banded,I J r.lo,I J r.hi,.slice t.a t.n t.c,.slice vo (valsB r.defs).1.length vc,.slice x.a x.n x.c,.slice y.a y.n y.c] 63)).heap.size (w2.alloc (.cells #[I J r.letters,.slice d.a d.n d.c,.slice s.a s.n s.c,I J r.beg,I J r.fin,I J r.front,I J r.back,.bool r.banded,I J r.lo,I J r.hi,.slice t.a t.n t.c,.slice vo (valsB r.defs).1.length vc,.slice x.a x.n x.c,.slice y.a y.n y.c] 63)) w'):=by
          have hm:=HM.out _ HO2.out.low
          have hbk:=heap_alloc_new w2 (.cells #[I J r.letters,.slice d.a d.n d.c,.slice s.a s.n s.c,I J r.beg,I J r.fin,I J r.front,I J r.back,.bool r.banded,I J r.lo,I J r.hi,.slice t.a t.n t.c,.slice vo (valsB r.defs).1.length vc,.slice x.a x.n x.c,.slice y.a y.n y.c] 63)
          exact width_calls (F:=feOf r xs ys) (A:=⟨d,s,t,⟨vo,(valsB r.defs).1.length,vc⟩,x,y⟩) _ ⟨⟨hm.1,hm.2.1,intA_own HW2.out rfl (by show (valsB r.defs).1.length <= maxLen; unfold maxLen; omega),hm.2.2.1,hm.2.2.2⟩,blk hbk rfl,blk hbk rfl,blk hbk rfl,blk hbk rfl,blk hbk rfl,blk hbk rfl,blk hbk rfl,blk hbk rfl,blk hbk rfl,blk hbk rfl,blk hbk rfl,blk hbk rfl,blk hbk rfl⟩ HR3.out
         have hw0:=widE_one r (valsB r.defs).1
         have hw9:=widE_le (r:=r) (valsB_in r.defs) (by unfold maxV; omega)
         unfold maxV at hw9
         clear HE3 hmx
         go_wp2_with fail
         refine HWd.out.mono ?_
         rintro e w4 ⟨rfl,hb4⟩
         have HO4:Hid (Fob w #[I J r.letters,.slice d.a d.n d.c,.slice s.a s.n s.c,I J r.beg,I J r.fin,I J r.front,I J r.back,.bool r.banded,I J r.lo,I J r.hi,.slice t.a t.n t.c] w4):=HO2.out.next hb4
         have HW4:Hid (w4.ownsRow (w.heap.size + 2) 3 1 (.slice vo (valsB r.defs).1.length vc) (valsB r.defs).1.length (itRow (valsB r.defs).1)):=owned_below HW2.out hb4
         have hbk:w4.heap[w2.heap.size]? = some (.cells #[I J r.letters,.slice d.a d.n d.c,.slice s.a s.n s.c,I J r.beg,I J r.fin,I J r.front,I J r.back,.bool r.banded,I J r.lo,I J r.hi,.slice t.a t.n t.c,.slice vo (valsB r.defs).1.length vc,.slice x.a x.n x.c,.slice y.a y.n y.c] 63 (0,0)):=by rw [hb4.block _ (by simp)]; exact heap_alloc_new w2 _
         have f0:w4.cell? ⟨w2.heap.size,0,none⟩ = some (I J r.letters):=blk hbk rfl
         have f1:w4.cell? ⟨w2.heap.size,1,none⟩ = some (.slice d.a d.n d.c):=blk hbk rfl
         have f2:w4.cell? ⟨w2.heap.size,2,none⟩ = some (.slice s.a s.n s.c):=blk hbk rfl
         have f3:w4.cell? ⟨w2.heap.size,3,none⟩ = some (I J r.beg):=blk hbk rfl
         have f4:w4.cell? ⟨w2.heap.size,4,none⟩ = some (I J r.fin):=blk hbk rfl
         have f5:w4.cell? ⟨w2.heap.size,5,none⟩ = some (I J r.front):=blk hbk rfl
         have f6:w4.cell? ⟨w2.heap.size,6,none⟩ = some (I J r.back):=blk hbk rfl
         have f7:w4.cell? ⟨w2.heap.size,7,none⟩ = some (.bool r.banded):=blk hbk rfl
         have f8:w4.cell? ⟨w2.heap.size,8,none⟩ = some (I J r.lo):=blk hbk rfl
         have f9:w4.cell? ⟨w2.heap.size,9,none⟩ = some (I J r.hi):=blk hbk rfl
         have f10:w4.cell? ⟨w2.heap.size,10,none⟩ = some (.slice t.a t.n t.c):=blk hbk rfl
         have f11:w4.cell? ⟨w2.heap.size,11,none⟩ = some (.slice vo (valsB r.defs).1.length vc):=blk hbk rfl
         have f12:w4.cell? ⟨w2.heap.size,12,none⟩ = some (.slice x.a x.n x.c):=blk hbk rfl
         have f13:w4.cell? ⟨w2.heap.size,13,none⟩ = some (.slice y.a y.n y.c):=blk hbk rfl
         have hne:w2.heap.size ≠ w.heap.size + 1:=by have:=lt_block HO.out.res; omega
         clear HWd hb4 hbk HO HO2 HW HW2 HM c0 c1 c2 c3 c4 c5 c6 c7 c8 c9 c10
         obtain ⟨wd,hwd⟩:∃ wd,widE r (valsB r.defs).1 = wd:=⟨_,rfl⟩
         rw [hwd] at HE4 hw0 hw9 ⊢
         clear hwd
         have hw1:¬ wd = 0:=by omega
         have q1:0 <= 4611686018427387904 / wd:=Int.ediv_nonneg (by omega) (by omega)
         have q2:4611686018427387904 / wd <= 4611686018427387904:=Int.ediv_le_self _ (by omega)
         by_cases hq:4611686018427387904 / wd < (x.n:Int) + y.n + 4
         ·have k2:decide (4611686018427387904 / wd < (x.n:Int) + y.n + 4) = true:=by simpa using hq
          have hE:Hid (errE r xs ys = 170):=by show _ = _; rw [HE4.out,if_pos hq]
          obtain ⟨r0,r1,r2,r3,r4,r5,r6,r7,r8,r9,r10,r11,r12,r13,rf⟩:=HO4.out.cells
          go_wp2
          refine bodyPost_ret (v:=.tuple #[.agg #[I J 0,.slice none 0 0,.slice none 0 0,I J 0,I J 0,I J 0,I J 0,.bool false,I J 0,I J 0,.slice none 0 0,.slice none 0 0,.slice none 0 0,.slice none 0 0],I J 170]) ?_ rfl ?_
          ·simp only [results,hres]
           go_simp
          ·exact HX.out 170 hE.out (by omega) _ (below14 HO4.out.low (by omega) _ _ _ _ _ _ _ _ _ _ _ _ _ _)
         ·have k2:decide (4611686018427387904 / wd < (x.n:Int) + y.n + 4) = false:=by simpa using hq
          have m0:((x.n:Int) + 1) * ((y.n:Int) + 1) = (((x.n + 1) * (y.n + 1):Nat):Int):=by simp
          have m3:(x.n + 1) * (y.n + 1) <= 65537 * 65537:=Nat.mul_le_mul (by omega) (by omega)
          have m1:0 <= ((x.n:Int) + 1) * ((y.n:Int) + 1):=by rw [m0]; omega
          have m2:((x.n:Int) + 1) * ((y.n:Int) + 1) <= 4295098369:=by rw [m0]; omega
          clear m0 m3
          by_cases hc:1048576 < ((x.n:Int) + 1) * ((y.n:Int) + 1)
          ·have k3:decide (1048576 < ((x.n:Int) + 1) * ((y.n:Int) + 1)) = true:=by simpa using hc
           have hE:Hid (errE r xs ys = 131):=by show _ = _; rw [HE4.out,if_neg hq,if_pos hc]
           obtain ⟨r0,r1,r2,r3,r4,r5,r6,r7,r8,r9,r10,r11,r12,r13,rf⟩:=HO4.out.cells
           go_wp2
           refine bodyPost_ret (v:=.tuple #[.agg #[I J 0,.slice none 0 0,.slice none 0 0,I J 0,I J 0,I J 0,I J 0,.bool false,I J 0,I J 0,.slice none 0 0,.slice none 0 0,.slice none 0 0,.slice none 0 0],I J 131]) ?_ rfl ?_
           ·simp only [results,hres]
            go_simp
           ·exact HX.out 131 hE.out (by omega) _ (below14 HO4.out.low (by omega) _ _ _ _ _ _ _ _ _ _ _ _ _ _)
          ·have k3:decide (1048576 < ((x.n:Int) + 1) * ((y.n:Int) + 1)) = false:=by simpa using hc
           have hE:Hid (errE r xs ys = 0):=by show _ = _; rw [HE4.out,if_neg hq,if_neg hc]
           obtain ⟨r0,r1,r2,r3,r4,r5,r6,r7,r8,r9,r10,r11,r12,r13,rf⟩:=HO4.out.cells
           go_wp2
           refine bodyPost_ret (v:=.tuple #[.agg #[I J r.letters,.slice d.a d.n d.c,.slice s.a s.n s.c,I J r.beg,I J r.fin,I J r.front,I J r.back,.bool r.banded,I J r.lo,I J r.hi,.slice t.a t.n t.c,.slice vo (valsB r.defs).1.length vc,.slice x.a x.n x.c,.slice y.a y.n y.c],I J 0]) ?_ rfl ?_
           ·simp only [results,hres]
            go_simp
           ·exact .inr ⟨hE.out,⟨vo,(valsB r.defs).1.length,vc⟩,rfl,rfl,below14 HO4.out.low (by omega) _ _ _ _ _ _ _ _ _ _ _ _ _ _,owned_base (own14 HW4.out (by omega) _ _ _ _ _ _ _ _ _ _ _ _ _ _) (by omega)⟩
 ·have n0:(er != 0) = true:=by simpa using hz
  have hE:Hid (errE r xs ys = 120):=by
   show _ = _
   rw [HE.out,if_pos]
   cases hrr:rightR r with
   | false=>rfl
   | true=>exact absurd (HEr.out hrr) hz
  clear HE c0 c1 c2 c3 c4 c5 c6 c7 c8 c9 c10
  obtain ⟨r0,r1,r2,r3,r4,r5,r6,r7,r8,r9,r10,r11,r12,r13,rf⟩:=HO.out.cells
  go_wp2
  refine bodyPost_ret (v:=.tuple #[.agg #[I J 0,.slice none 0 0,.slice none 0 0,I J 0,I J 0,I J 0,I J 0,.bool false,I J 0,I J 0,.slice none 0 0,.slice none 0 0,.slice none 0 0,.slice none 0 0],I J 120]) ?_ rfl ?_
  ·simp only [results,hres]
   go_simp
  ·exact HX.out 120 hE.out (by omega) _ (below14 HO.out.low (by omega) _ _ _ _ _ _ _ _ _ _ _ _ _ _)
set_option maxRecDepth 20000
set_option maxHeartbeats 4000000
def enG (a:Option En):En:=a.getD (0,0,0,0)
def enV (e:En):Array Value:=#[I J e.1,I J e.2.1,I J e.2.2.1,.int .u16 (e.2.2.2:Int)]
def SmE (a:Option En):Prop:=(enG a).2.2.2 < 1024
structure Eb (w:World) (a:Option En) (W:World):Prop where
 low:Below w.heap.size w W
 res:W.heap[w.heap.size]? = some (.cells #[I J 0,I J 0,I J 0,.int .u16 0] 75 (0,0))
 best:W.heap[w.heap.size + 1]? = some (.cells (enV (enG a)) 75 (0,0))
section
variable {w W V:World} {a:Option En}
theorem Eb.next (h:Eb w a W) (hb:Below W.heap.size W V):Eb w a V:=
 ⟨h.low.trans (hb.mono h.low.size),by rw [hb.block _ (lt_block h.res)]; exact h.res,by rw [hb.block _ (lt_block h.best)]; exact h.best⟩
theorem Eb.start (w:World):Eb w none ((w.alloc (.cells #[I J 0,I J 0,I J 0,.int .u16 0] 75)).alloc (.cells #[I J 0,I J 0,I J 0,.int .u16 0] 75)):=by
 have hb:=((Below.refl (w.alloc (.cells #[I J 0,I J 0,I J 0,.int .u16 0] 75)).heap.size (w.alloc (.cells #[I J 0,I J 0,I J 0,.int .u16 0] 75))).alloc (Nat.le_refl _) (.cells #[I J 0,I J 0,I J 0,.int .u16 0] 75))
 refine ⟨((Below.refl _ _).alloc (Nat.le_refl _) _).alloc (by simp) _,?_,?_⟩
 ·rw [hb.block _ (by simp)]; exact heap_alloc_new w _
 ·have:=heap_alloc_new (w.alloc (.cells #[I J 0,I J 0,I J 0,.int .u16 0] 75)) (.cells #[I J 0,I J 0,I J 0,.int .u16 0] 75)
  rw [show (w.alloc (.cells #[I J 0,I J 0,I J 0,.int .u16 0] 75)).heap.size = w.heap.size + 1 by simp] at this
  exact this
theorem Eb.cells (h:Eb w a W):W.cell? ⟨w.heap.size + 1,0,none⟩ = some (I J (enG a).1) /\ W.cell? ⟨w.heap.size + 1,1,none⟩ = some (I J (enG a).2.1) /\ W.cell? ⟨w.heap.size + 1,2,none⟩ = some (I J (enG a).2.2.1) /\ W.cell? ⟨w.heap.size + 1,3,none⟩ = some (.int .u16 ((enG a).2.2.2:Int)) /\ (∀ i,W.frozen? ⟨w.heap.size + 1,i,none⟩ = false):=
 ⟨blk h.best rfl,blk h.best rfl,blk h.best rfl,blk h.best rfl,fun i=>blkf i h.best⟩
theorem Eb.rcells (h:Eb w a W):W.cell? ⟨w.heap.size,0,none⟩ = some (I J 0) /\ W.cell? ⟨w.heap.size,1,none⟩ = some (I J 0) /\ W.cell? ⟨w.heap.size,2,none⟩ = some (I J 0) /\ W.cell? ⟨w.heap.size,3,none⟩ = some (.int .u16 0) /\ (∀ i,W.frozen? ⟨w.heap.size,i,none⟩ = false):=
 ⟨blk h.res rfl,blk h.res rfl,blk h.res rfl,blk h.res rfl,fun i=>blkf i h.res⟩
theorem Eb.put4 (h:Eb w a W) (i j n:Int) (s:Nat):Eb w (some (i,j,n,s)) ((((W.setCell ⟨w.heap.size + 1,0,none⟩ (I J i)).setCell ⟨w.heap.size + 1,1,none⟩ (I J j)).setCell ⟨w.heap.size + 1,2,none⟩ (I J n)).setCell ⟨w.heap.size + 1,3,none⟩ (.int .u16 (s:Int))):=
 ⟨below_set (below_set (below_set (below_set h.low (by simp) _) (by simp) _) (by simp) _) (by simp) _,heap_other (heap_other (heap_other (heap_other h.res (by omega)) (by omega)) (by omega)) (by omega),
  heap_put (heap_put (heap_put (heap_put h.best rfl) rfl) rfl) rfl⟩
theorem Eb.put1 {i j n:Int} {s:Nat} (h:Eb w (some (i,j,n,s)) W) (u:Nat):Eb w (some (i,j,n,u)) (W.setCell ⟨w.heap.size + 1,3,none⟩ (.int .u16 (u:Int))):=
 ⟨below_set h.low (by simp) _,heap_other h.res (by omega),heap_put h.best rfl⟩
end
theorem endS_none {F:Fe} {G:Tb} {i j:Int} {a:Option En} {s:Int} (h:G i j s = none):endS F G i j a s = a:=by unfold endS; rw [h]
theorem endS_new {F:Fe} {G:Tb} {i j v:Int} {a:Option En} {s:Int} (h:G i j s = some v) (ha:a = none \/ (enG a).2.2.1 < wrap64 (v - backE F j)):endS F G i j a s = some (i,j,wrap64 (v - backE F j),withE 0 s):=by
 unfold endS
 rw [h]
 cases a with
 | none=>rfl
 | some b=>
   rcases ha with ha | ha
   ·cases ha
   ·have:b.2.2.1 < wrap64 (v - backE F j):=ha
    simp only [if_pos this]
theorem endS_same {F:Fe} {G:Tb} {i j v:Int} {b:En} {s:Int} (h:G i j s = some v) (hb:wrap64 (v - backE F j) = b.2.2.1):endS F G i j (some b) s = some (b.1,b.2.1,b.2.2.1,withE b.2.2.2 s):=by
 unfold endS
 rw [h]
 simp only [if_neg (show ¬ b.2.2.1 < wrap64 (v - backE F j) by omega),if_pos hb]
theorem endS_less {F:Fe} {G:Tb} {i j v:Int} {b:En} {s:Int} (h:G i j s = some v) (hb:wrap64 (v - backE F j) < b.2.2.1):endS F G i j (some b) s = some b:=by
 unfold endS
 rw [h]
 simp only [if_neg (show ¬ b.2.2.1 < wrap64 (v - backE F j) by omega),if_neg (show ¬ wrap64 (v - backE F j) = b.2.2.1 by omega)]
def endK (F:Fe) (G:Tb) (i j:Int) (q:Nat):Option En:=(List.range q).foldl (fun a (k:Nat)=>endS F G i j a ((k:Int) - 1)) none
theorem endK_next (F:Fe) (G:Tb) (i j:Int) (q:Nat):endK F G i j (q + 1) = endS F G i j (endK F G i j q) ((q:Int) - 1):=by
 unfold endK
 rw [List.range_succ,List.foldl_append]
 rfl
theorem endE_eq (F:Fe) (G:Tb) (i j:Int):endE F G i j = if endsE F i j then endK F G i j (F.r.states.length + 1) else none:=rfl
theorem endS_small {F:Fe} {G:Tb} {i j:Int} {a:Option En} {s:Int} (h:SmE a) (hs:s <= 8):SmE (endS F G i j a s):=by
 unfold endS
 split
 ·exact h
 ·split
  ·exact with_lt (by omega) hs
  ·next b=>
   dsimp only
   split
   ·exact with_lt (by omega) hs
   ·split
    ·exact with_lt h hs
    ·exact h
theorem endK_small {F:Fe} {G:Tb} {i j:Int}:∀ {q:Nat},q <= 10 -> SmE (endK F G i j q)
 | 0,_=>by show 0 < 1024; omega
 | q + 1,h=>by rw [endK_next]; exact endS_small (endK_small (by omega)) (by omega)
theorem endE_small {F:Fe} {G:Tb} {i j:Int} (h:F.r.states.length <= 9):SmE (endE F G i j):=by
 rw [endE_eq]
 split
 ·exact endK_small (by omega)
 ·show 0 < 1024; omega
theorem endAt_calls {w0:World} {F:Fe} {A:Fx} {p:Wp} {G:Tb} (a b:Nat) (w:World) (h:Wk w0 F A p w G) (hi:a <= F.xs.length) (hj:b <= F.ys.length) :
 Calls Tryz.prog 47 #[.pointer (some ⟨p.b,0,none⟩),I J (a:Int),I J (b:Int)] w fun e w'=>e = .returned (.tuple #[.agg (enV (enG (endE F G a b))),.bool (endE F G a b).isSome]) /\ Below w.heap.size w w':=by
 have hres:Tryz.f47.results = #[.cell 6 75,.tmp 7]:=by kernel_rfl
 have hst:=h.fc.states
 have hstn:=hst.length
 have hfew:=h.ok.few
 rw [hstn] at hfew
 have HC1:Hid (∀ W,Below w.heap.size w W -> Calls Tryz.prog 78 #[.pointer (some ⟨p.b,0,none⟩),I J (a:Int),I J (b:Int)] W fun e w'=>e = .returned (.bool (endsE F a b)) /\ ∃ n,w' = W.drewN n):=fun W hW=>mayEnd_calls a b W (h.below hW).fc
 have HC2:Hid (∀ W (s:Int),Below w.heap.size w W -> -1 <= s -> s < A.t.n -> Calls Tryz.prog 20 #[.pointer (some ⟨p.b,0,none⟩),I J s,I J (a:Int),I J (b:Int)] W fun e w'=>e = .returned (.tuple #[I J ((G a b s).getD 0),.bool (G a b s).isSome]) /\ Below W.heap.size W w'):=fun W s hW h1 h2=>value_calls s a b W (h.below hW) h1 (by rw [hstn]; exact h2) (by omega) (by omega)
 have HC3:Hid (∀ W,Below w.heap.size w W -> Calls Tryz.prog 79 #[.pointer (some ⟨p.b,0,none⟩),I J (b:Int)] W fun e w'=>e = .returned (I J (backE F b)) /\ ∃ n,w' = W.drewN n):=fun W hW=>back_calls b W (h.below hW).fc h.ok.toFeR
 have HX:Hid (∀ W,Below w.heap.size w W -> W.cell? ⟨p.b,10,none⟩ = some (.slice A.t.a A.t.n A.t.c) /\ p.b < W.heap.size):=fun W hW=>⟨(h.below hW).fc.c10,(h.below hW).fc.lt⟩
 have HS:Hid (Eb w none ((w.alloc (.cells #[I J 0,I J 0,I J 0,.int .u16 0] 75)).alloc (.cells #[I J 0,I J 0,I J 0,.int .u16 0] 75))):=Eb.start w
 have HE:Hid (endE F G a b = if endsE F a b then endK F G a b (A.t.n + 1) else none):=by rw [<- hstn]; exact endE_eq F G a b
 have HSm:Hid (∀ q,q <= 10 -> SmE (endK F G a b q)):=fun q hq=>endK_small hq
 have HNx:Hid (∀ q:Nat,endK F G a b (q + 1) = endS F G a b (endK F G a b q) ((q:Int) - 1)):=fun q=>endK_next F G a b q
 obtain ⟨R,hR⟩:∃ R,endE F G a b = R:=⟨_,rfl⟩
 rw [hR] at HE ⊢
 have hb:=h.fc.lt
 clear h hst hR hstn
 go_enter Tryz.func47,Tryz.ntmps47
 go_wp2_with fail
 refine (HC1.out _ HS.out.low).mono ?_
 rintro e w1 ⟨rfl,m,rfl⟩
 have HS1:Hid (Eb w none (((w.alloc (.cells #[I J 0,I J 0,I J 0,.int .u16 0] 75)).alloc (.cells #[I J 0,I J 0,I J 0,.int .u16 0] 75)).drewN m)):=HS.out.next (below_dn (Below.refl _ _) m)
 generalize ((w.alloc (.cells #[I J 0,I J 0,I J 0,.int .u16 0] 75)).alloc (.cells #[I J 0,I J 0,I J 0,.int .u16 0] 75)).drewN m = w1 at *
 clear HC1 HS
 cases hen:endsE F a b with
 | false=>
   have HE2:Hid (R = none):=by show _ = _; rw [HE.out,hen]; rfl
   obtain ⟨b0,b1,b2,b3,bf⟩:=HS1.out.cells
   obtain ⟨r0,r1,r2,r3,rf⟩:=HS1.out.rcells
   simp only [enG,Option.getD_none] at b0 b1 b2 b3
   clear hen HE HC2 HC3 HNx HSm
   go_wp2
   refine bodyPost_ret (v:=.tuple #[.agg #[I J 0,I J 0,I J 0,.int .u16 0],.bool false]) ?_ rfl ?_
   ·simp only [results,hres]
    go_simp
   ·rw [HE2.out]
    exact ⟨rfl,below_set (below_set (below_set (below_set HS1.out.low (by simp) _) (by simp) _) (by simp) _) (by simp) _⟩
 | true=>
   have HE2:Hid (R = endK F G a b (A.t.n + 1)):=by show _ = _; rw [HE.out,hen]; rfl
   clear hen HE
   go_wp2
   go_loopw [9,10,11,12] (fun fv sv _ _ wr=>∃ (q:Nat) (acc:Option En),q <= A.t.n + 1 /\ sv = I J ((q:Int) - 1) /\ fv = .bool acc.isSome /\ Hid (endK F G a b q = acc /\ Eb w acc wr)) (fun _ s _ _ _=>(A.t.n + 1 - (intOf s + 1).toNat))
   case atStart=>exact ⟨0,none,Nat.zero_le _,rfl,rfl,rfl,HS1.out⟩
   case round=>
    clear HS1
    obtain ⟨q,acc,hq,rfl,rfl,HL⟩:=hrel
    obtain ⟨x10,hbr⟩:=HX.out wr HL.out.2.low
    by_cases hlt:q < A.t.n + 1
    ·have hd:decide ((q:Int) - 1 < (A.t.n:Int)) = true:=by simp; omega
     have HSq:Hid ((enG acc).2.2.2 < 1024):=by have:=HSm.out q (by omega); rw [HL.out.1] at this; exact this
     have HN:Hid (endK F G a b (q + 1) = endS F G a b acc ((q:Int) - 1)):=by show _ = _; rw [HNx.out q,HL.out.1]
     go_wp2_with fail
     refine (HC2.out wr ((q:Int) - 1) HL.out.2.low (by omega) (by omega)).mono ?_
     rintro e w2 ⟨rfl,hb2⟩
     have HL2:Hid (Eb w acc w2):=HL.out.2.next hb2
     clear hb2 HL x10 hbr
     cases hv:G a b ((q:Int) - 1) with
     | none=>
       have HN2:Hid (endK F G a b (q + 1) = acc):=by show _ = _; rw [HN.out,endS_none hv]
       clear HN hv
       go_wp2
       go_roundw
       case rel=>exact ⟨q + 1,acc,by omega,by go_num,rfl,HN2.out,HL2.out⟩
       case measure=>simp [intOf]; omega
     | some v=>
       go_wp2_with fail
       refine (HC3.out w2 HL2.out.low).mono ?_
       rintro e w3 ⟨rfl,m3,rfl⟩
       have HL3:Hid (Eb w acc (w2.drewN m3)):=HL2.out.next (below_dn (Below.refl _ _) m3)
       generalize w2.drewN m3 = w3 at *
       clear HL2
       obtain ⟨b0,b1,b2,b3,bf⟩:=HL3.out.cells
       have hEn:=endS_new (F:=F) (a:=acc) hv
       have hEs:=fun b=>endS_same (F:=F) (b:=b) hv
       have hEl:=fun b=>endS_less (F:=F) (b:=b) hv
       have hwi:=wrap_is (v - backE F b)
       generalize backE F b = bk at *
       have HWr:Hid (IntKind.i64.wrap (v - bk) = wrap64 (v - bk)):=hwi
       clear hv hwi
       generalize hnn:wrap64 (v - bk) = n at *
       have hnw:wrap64 (v - bk) = n:=hnn
       clear hnn
       have HW0:Hid (∀ W,Calls Tryz.prog 80 #[.int .u16 0,I J ((q:Int) - 1)] W fun e w'=>e = .returned (.int .u16 (withE 0 ((q:Int) - 1):Int)) /\ W = w'):=fun W=>with_calls 0 ((q:Int) - 1) W (by omega) (by omega) (by omega)
       cases acc with
       | none=>
         simp only [enG,Option.getD_none] at b0 b1 b2 b3
         have HN2:Hid (endK F G a b (q + 1) = some ((a:Int),(b:Int),n,withE 0 ((q:Int) - 1))):=by show _ = _; rw [HN.out]; exact hEn (.inl rfl)
         clear hEn hEs hEl HN
         have knn:(n == n) = true:=by simp
         go_wp2_with fail
         refine (HW0.out _).mono ?_
         rintro e w4 ⟨rfl,rfl⟩
         go_wp2
         go_roundw
         case rel=>exact ⟨q + 1,some ((a:Int),(b:Int),n,withE 0 ((q:Int) - 1)),by omega,by go_num,rfl,HN2.out,(HL3.out.put4 a b n 0).put1 _⟩
         case measure=>simp [intOf]; omega
       | some e0=>
         obtain ⟨ei,ej,en,es⟩:=e0
         simp only [enG,Option.getD_some] at b0 b1 b2 b3 HSq hEn
         by_cases hl:en < n
         ·have kl:decide (en < n) = true:=by simpa using hl
          have HN2:Hid (endK F G a b (q + 1) = some ((a:Int),(b:Int),n,withE 0 ((q:Int) - 1))):=by show _ = _; rw [HN.out]; exact hEn (.inr hl)
          clear hEn hEs hEl HN
          have knn:(n == n) = true:=by simp
          go_wp2_with fail
          refine (HW0.out _).mono ?_
          rintro e w4 ⟨rfl,rfl⟩
          go_wp2
          go_roundw
          case rel=>exact ⟨q + 1,some ((a:Int),(b:Int),n,withE 0 ((q:Int) - 1)),by omega,by go_num,rfl,HN2.out,(HL3.out.put4 a b n 0).put1 _⟩
          case measure=>simp [intOf]; omega
         ·have kl:decide (en < n) = false:=by simpa using hl
          by_cases he:n = en
          ·have HN2:Hid (endK F G a b (q + 1) = some (ei,ej,en,withE es ((q:Int) - 1))):=by show _ = _; rw [HN.out]; exact hEs (ei,ej,en,es) he
           have kn:(n == en) = true:=by simpa using he
           have HW1:Hid (∀ W,Calls Tryz.prog 80 #[.int .u16 (es:Int),I J ((q:Int) - 1)] W fun e w'=>e = .returned (.int .u16 (withE es ((q:Int) - 1):Int)) /\ W = w'):=fun W=>with_calls es ((q:Int) - 1) W (by have:=HSq.out; omega) (by omega) (by omega)
           clear hEn hEs hEl HN he
           go_wp2_with fail
           refine (HW1.out _).mono ?_
           rintro e w4 ⟨rfl,rfl⟩
           go_wp2
           go_roundw
           case rel=>exact ⟨q + 1,some (ei,ej,en,withE es ((q:Int) - 1)),by omega,by go_num,rfl,HN2.out,HL3.out.put1 _⟩
           case measure=>simp [intOf]; omega
          ·have HN2:Hid (endK F G a b (q + 1) = some (ei,ej,en,es)):=by show _ = _; rw [HN.out]; exact hEl (ei,ej,en,es) (by show n < en; omega)
           have kn:(n == en) = false:=by simpa using he
           clear hEn hEs hEl HN he
           go_wp2
           go_roundw
           case rel=>exact ⟨q + 1,some (ei,ej,en,es),by omega,by go_num,rfl,HN2.out,HL3.out⟩
           case measure=>simp [intOf]; omega
    ·have hd:decide ((q:Int) - 1 < (A.t.n:Int)) = false:=by simp; omega
     have HR2:Hid (R = acc):=by
      show _ = _
      rw [HE2.out,<- HL.out.1,show q = A.t.n + 1 by omega]
     obtain ⟨b0,b1,b2,b3,bf⟩:=HL.out.2.cells
     obtain ⟨r0,r1,r2,r3,rf⟩:=HL.out.2.rcells
     go_wp2
     refine bodyPost_ret (v:=.tuple #[.agg (enV (enG acc)),.bool acc.isSome]) ?_ rfl ?_
     ·simp only [results,hres,enV]
      go_simp
     ·rw [HR2.out]
      exact ⟨rfl,below_set (below_set (below_set (below_set HL.out.2.low (by simp) _) (by simp) _) (by simp) _) (by simp) _⟩
end Go.Proofs.YtbbbnopganhebabGreat
