/-
  What is asked of a recurrence: its letters and scores, its ends, its band. What is asked of a recurrence: its states and their edges; the whole. Whether an item says again what may be said but once: twice.
-/
import Derived.Deep.QuietTactic
import Derived.BigQuiet
import Derived.Test.YtbbbnopganhebabGreatG30
namespace Go.Proofs.YtbbbnopganhebabGreat
open Go.RowKit Go.Deep Go.Maps
open Go.Value renaming int->I
open Go.IntKind renaming i64->J
set_option maxRecDepth 20000
set_option maxHeartbeats 1000000
theorem rightBand_calls (x:Rc) (da:Option Addr) (dn dc:Nat) (sa:Option Addr) (sn sc:Nat) (ta:Option Addr) (tn tc:Nat) (w:World) :
 Calls Tryz.prog 71 #[.agg (rcCells x da dn dc sa sn sc ta tn tc)] w fun e w'=>e = .returned (.bool (bandR x)) /\ Below w.heap.size w w':=by
 have HB:Hid (Below w.heap.size w (w.alloc (.cells (rcCells x da dn dc sa sn sc ta tn tc) 26))):=(Rb.start w _).low
 have HN:Hid (bandR x = if x.banded then decide (x.lo <= x.hi) else decide (x.lo = 0) && decide (x.hi = 0)):=rfl
 obtain ⟨letters,defs,subst,beg,fin,front,back,banded,lo,hi,states⟩:=x
 unfold rcCells at HB ⊢
 simp only at HN HB ⊢
 cases banded with
 | true=>
   go_enter Tryz.func71,Tryz.ntmps71
   go_wp2
   go_ret
   exact ⟨ret_bool (by rw [HN.out]; rfl),HB.out⟩
 | false=>
   by_cases h:lo = 0
   ·subst h
    have h0:((0:Int) == 0) = true:=rfl
    go_enter Tryz.func71,Tryz.ntmps71
    go_wp2
    go_ret
    refine ⟨ret_bool ?_,HB.out⟩
    rw [HN.out]
    simp [beqz]
   ·have h0:(lo == 0) = false:=by simpa using h
    go_enter Tryz.func71,Tryz.ntmps71
    go_wp2
    go_ret
    refine ⟨ret_bool ?_,HB.out⟩
    rw [HN.out]
    simp [h]
theorem rightSubst_calls (x:Rc) (da:Option Addr) (dn dc:Nat) (sa:Option Addr) (sn sc:Nat) (ta:Option Addr) (tn tc:Nat) (w:World) (h:RcAt w x da dn sa sn ta tn) :
 Calls Tryz.prog 69 #[.agg (rcCells x da dn dc sa sn sc ta tn tc)] w fun e w'=>e = .returned (.bool (substR x)) /\ Below w.heap.size w w':=by
 have hdn:=h.defs.short
 have hsn:=h.subst.short
 have e1:=h.defs.length
 have e2:=h.subst.length
 have HB:Hid (Below w.heap.size w (w.alloc (.cells (rcCells x da dn dc sa sn sc ta tn tc) 26))):=(Rb.start w _).low
 have HS:Hid (IntA (w.alloc (.cells (rcCells x da dn dc sa sn sc ta tn tc) 26)) sa sn x.subst /\ dn <= maxLen):=⟨h.subst.below HB.out,hdn⟩
 have HN:Hid (substR x = (inI x.letters 2 20 && (decide ((sn:Int) = x.letters * x.letters) && placesB dn x.subst))):=by show substR x = _; unfold substR; rw [e1,e2]
 unfold maxLen at hdn hsn
 clear h e1 e2
 obtain ⟨L,defs,subst,beg,fin,front,back,banded,lo,hi,states⟩:=x
 unfold rcCells at HB HS ⊢
 simp only at HN HB HS ⊢
 go_enter Tryz.func69,Tryz.ntmps69
 go_wp2_with fail
 refine (inI_calls L 2 20 _).mono ?_
 rintro e w1 ⟨rfl,rfl⟩
 cases hr:inI L 2 20 with
 | false=>
   have HE:Hid (substR ⟨L,defs,subst,beg,fin,front,back,banded,lo,hi,states⟩ = false):=by rw [HN.out,hr]; rfl
   clear hr HN
   go_wp2
   go_ret
   exact ⟨ret_bool HE.out.symm,HB.out⟩
 | true=>
   have hL:=inI_iff.1 hr
   obtain ⟨l1,l2⟩:=hL
   obtain ⟨n,rfl⟩:=Int.eq_ofNat_of_zero_le (show 0 <= L by omega)
   have hn20:n <= 20:=by omega
   have hsq:n * n <= 400:=by have:=Nat.mul_le_mul hn20 hn20; omega
   have hsqi:(n:Int) * (n:Int) = ((n * n:Nat):Int):=by simp
   have hm1:0 <= (n:Int) * (n:Int):=by rw [hsqi]; omega
   have hm2:(n:Int) * (n:Int) <= 400:=by rw [hsqi]; omega
   rw [hr] at HN
   clear hr hsq hsqi hn20
   by_cases g:(sn:Int) = (n:Int) * (n:Int)
   ·have k:((sn:Int) == (n:Int) * (n:Int)) = true:=by simpa using g
    rw [decide_eq_true g] at HN
    clear g
    go_wp2_with fail
    refine (places_calls dn subst sa sn sc _ HS.out.2 HS.out.1).mono ?_
    rintro e w2 ⟨rfl,rfl⟩
    go_wp2
    go_ret
    exact ⟨ret_bool (by rw [HN.out]; rfl),HB.out⟩
   ·have k:((sn:Int) == (n:Int) * (n:Int)) = false:=by simpa using g
    rw [decide_eq_false g] at HN
    clear g
    go_wp2
    go_ret
    exact ⟨ret_bool (by rw [HN.out]; rfl),HB.out⟩
theorem rightEnds_calls (x:Rc) (da:Option Addr) (dn dc:Nat) (sa:Option Addr) (sn sc:Nat) (ta:Option Addr) (tn tc:Nat) (vs:List Int) (vo:Option Addr) (vn vc:Nat) (w:World) (hv:IntA w vo vn vs) :
 Calls Tryz.prog 70 #[.agg (rcCells x da dn dc sa sn sc ta tn tc),.slice vo vn vc] w fun e w'=>e = .returned (.bool (endsR x vs)) /\ Below w.heap.size w w':=by
 have hvn:=hv.short
 have e1:=hv.length
 have HB:Hid (Below w.heap.size w (w.alloc (.cells (rcCells x da dn dc sa sn sc ta tn tc) 26))):=(Rb.start w _).low
 have HS:Hid (∀ W,Below w.heap.size w W -> IntA W vo vn vs):=fun W hW=>hv.below hW
 have HM:Hid (vn <= maxLen):=hvn
 have HN:Hid (endsR x vs = (inI x.beg 1 3 && (inI x.fin 1 3 && (placesB vn [x.front,x.back] && (decide (0 <= vAt vs x.front) && decide (0 <= vAt vs x.back)))))):=by show endsR x vs = _; unfold endsR; rw [e1]
 have HL:Hid (vs.length = vn):=e1
 unfold maxLen at hvn
 clear hv e1
 obtain ⟨L,defs,subst,beg,fin,front,back,banded,lo,hi,states⟩:=x
 unfold rcCells at HB ⊢
 simp only at HN HB ⊢
 obtain ⟨R,hR⟩:∃ R,endsR ⟨L,defs,subst,beg,fin,front,back,banded,lo,hi,states⟩ vs = R:=⟨_,rfl⟩
 rw [hR] at HN ⊢
 clear hR
 go_enter Tryz.func70,Tryz.ntmps70
 go_wp2_with fail
 refine (inI_calls beg 1 3 _).mono ?_
 rintro e w1 ⟨rfl,rfl⟩
 cases hr1:inI beg 1 3 with
 | false=>
   rw [hr1] at HN
   go_wp2
   go_ret
   exact ⟨ret_bool (by rw [HN.out]; rfl),HB.out⟩
 | true=>
   rw [hr1] at HN
   clear hr1
   go_wp2_with fail
   refine (inI_calls fin 1 3 _).mono ?_
   rintro e w1 ⟨rfl,rfl⟩
   cases hr2:inI fin 1 3 with
   | false=>
     rw [hr2] at HN
     go_wp2
     go_ret
     exact ⟨ret_bool (by rw [HN.out]; rfl),HB.out⟩
   | true=>
     rw [hr2] at HN
     clear hr2
     have HB2:Hid (Below w.heap.size w ((w.alloc (.cells #[I J L,.slice da dn dc,.slice sa sn sc,I J beg,I J fin,I J front,I J back,.bool banded,I J lo,I J hi,.slice ta tn tc] 26)).alloc (.cells #[I J front,I J back] 3))):=HB.out.alloc (by simp) _
     go_wp2_with fail
     refine (places_calls vn [front,back] _ 2 2 _ HM.out (two_intA _ front back _ (by simp))).mono ?_
     rintro e w1 ⟨rfl,rfl⟩
     cases hr3:placesB vn [front,back] with
     | false=>
       rw [hr3] at HN
       go_wp2
       go_ret
       exact ⟨ret_bool (by rw [HN.out]; rfl),HB2.out⟩
     | true=>
       rw [hr3] at HN
       have hp:(0 <= front /\ front < vn) /\ (0 <= back /\ back < vn):=by
        have h1:=hr3
        simp only [placesB,List.all_cons,List.all_nil,Bool.and_true,Bool.and_eq_true,inI_iff] at h1
        omega
       obtain ⟨⟨f0,f1⟩,b0,b1⟩:=hp
       obtain ⟨qf,rfl⟩:=Int.eq_ofNat_of_zero_le f0
       obtain ⟨qb,rfl⟩:=Int.eq_ofNat_of_zero_le b0
       have hqf:qf < vn:=by omega
       have hqb:qb < vn:=by omega
       have hvf:=vAt_get (vs:=vs) (i:=qf) (by rw [HL.out]; exact hqf)
       have hvb:=vAt_get (vs:=vs) (i:=qb) (by rw [HL.out]; exact hqb)
       have hI:=(HS.out _ HB2.out).isI
       obtain ⟨g2,o2,rfl,cf⟩:=hI qf _ hvf
       obtain ⟨g3,o3,e3,cb⟩:=hI qb _ hvb
       cases e3
       clear hr3 hI hvf hvb f0 f1 b0 b1
       generalize vAt vs (qf:Int) = zf at *
       generalize vAt vs (qb:Int) = zb at *
       by_cases hz:0 <= zf
       ·have k:decide (0 <= zf) = true:=by simpa using hz
        rw [k] at HN
        go_wp2
        go_ret
        exact ⟨ret_bool (by rw [HN.out]; rfl),HB2.out⟩
       ·have k:decide (0 <= zf) = false:=by simpa using hz
        rw [k] at HN
        go_wp2
        go_ret
        exact ⟨ret_bool (by rw [HN.out]; rfl),HB2.out⟩
set_option maxRecDepth 20000
set_option maxHeartbeats 1000000
theorem dropP {α:Type} {l:List α} {i:Nat} {d:α} (h:l[i]? = some d):l.drop i = d :: l.drop (i + 1):=by
 obtain ⟨h1,h2⟩:=List.getElem?_eq_some_iff.1 h
 rw [List.drop_eq_getElem_cons h1,h2]
theorem rightEdges_calls (m n:Nat) (es:List (Int × Int)) (ea:Option Addr) (en ec:Nat) (w:World) (hm:m <= maxLen) (hn:n <= maxLen) (h:PcsAt w ea en es) :
 Calls Tryz.prog 109 #[I J (m:Int),I J (n:Int),.slice ea en ec] w fun e w'=>e = .returned (.bool (edgesB m n (-1) es)) /\ Below w.heap.size w w':=by
 have hen:=h.short
 have HM:Hid (n <= maxLen):=hn
 unfold maxLen at hen hm hn
 have HP:Hid (PcsAt w ea en es):=h
 clear h
 obtain ⟨R,hR⟩:∃ R,edgesB m n (-1) es = R:=⟨_,rfl⟩
 have HR:Hid (edgesB m n (-1) (es.drop 0) = R):=by rw [List.drop_zero]; exact hR
 rw [hR]
 clear hR
 go_enter Tryz.func109,Tryz.ntmps109
 go_wp2
 go_loopw [7,9,12] (fun lv _ iv wr=>∃ (k:Nat) (least:Int),k <= en /\ iv = I J k /\ lv = I J least /\ Hid (-1 <= least /\ least <= m /\ edgesB m n least (es.drop k) = R /\ Below w.heap.size w wr)) (fun _ _ i _=>en - (intOf i).toNat)
 case atStart=>exact ⟨0,-1,Nat.zero_le _,rfl,rfl,by omega,by omega,HR.out,Below.refl _ _⟩
 case round=>
  clear HR
  obtain ⟨k,least,hk,rfl,rfl,HT⟩:=hrel
  by_cases hlt:k < en
  ·obtain ⟨d,hdi⟩:∃ d,es[k]? = some d:=⟨es[k]'(by rw [HP.out.length]; exact hlt),List.getElem?_eq_getElem _⟩
   obtain ⟨b,off,rfl,hcs⟩:=(HP.out.below HT.out.2.2.2).cells (by omega)
   obtain ⟨c1,c2⟩:=hcs k d hdi
   have HD:Hid (es.drop k = d :: es.drop (k + 1)):=dropP hdi
   clear hcs hdi
   obtain ⟨s,c⟩:=d
   simp only at c1 c2
   have HE:Hid ((inI s least ((m:Int) - 1) && (decide (c = -1) || inI c 0 ((n:Int) - 1)) && edgesB m n (s + 1) (es.drop (k + 1))) = R /\ Below w.heap.size w (wr.alloc (.cells #[I J s,I J c] 44))):=by
    have:=HT.out.2.2.1
    rw [HD.out] at this
    exact ⟨this,HT.out.2.2.2.alloc HT.out.2.2.2.size _⟩
   have hl1:=HT.out.1
   have hl2:=HT.out.2.1
   go_wp2_with fail
   refine (inI_calls s least ((m:Int) - 1) _).mono ?_
   rintro e w1 ⟨rfl,rfl⟩
   cases hr:inI s least ((m:Int) - 1) with
   | false=>
     rw [hr] at HE
     go_wp2
     go_ret
     exact ⟨ret_bool (by rw [<- HE.out.1]; rfl),HE.out.2⟩
   | true=>
     have hs:=inI_iff.1 hr
     obtain ⟨s1,s2⟩:=hs
     rw [hr] at HE
     clear hr
     by_cases hc:c = -1
     ·subst hc
      have kc:((-1:Int) != -1) = false:=rfl
      go_wp2
      go_roundw
      case rel=>exact ⟨k + 1,s + 1,by omega,by go_num,by go_num,by omega,by omega,by rw [<- HE.out.1]; rfl,HE.out.2⟩
      case measure=>simp [intOf]; omega
     ·have kc:(c != -1) = true:=by simpa using hc
      have HB2:Hid (Below w.heap.size w ((wr.alloc (.cells #[I J s,I J c] 44)).alloc (.cells #[I J c] 3))):=HE.out.2.alloc HE.out.2.size _
      go_wp2_with fail
      refine (places_calls n [c] _ 1 1 _ HM.out (one_intA _ c _ (by simp))).mono ?_
      rintro e w1 ⟨rfl,rfl⟩
      have hp:placesB n [c] = inI c 0 ((n:Int) - 1):=by simp [placesB]
      cases hr2:placesB n [c] with
      | false=>
        rw [<- hp,hr2,decide_eq_false hc] at HE
        go_wp2
        go_ret
        exact ⟨ret_bool (by rw [<- HE.out.1]; rfl),HB2.out⟩
      | true=>
        rw [<- hp,hr2,decide_eq_false hc] at HE
        clear hr2 hp
        go_wp2
        go_roundw
        case rel=>exact ⟨k + 1,s + 1,by omega,by go_num,by go_num,by omega,by omega,by rw [<- HE.out.1]; rfl,HB2.out⟩
        case measure=>simp [intOf]; omega
  ·have HE:Hid (R = true /\ Below w.heap.size w wr):=by
    have:=HT.out.2.2.1
    rw [List.drop_eq_nil_of_le (by rw [HP.out.length]; omega)] at this
    exact ⟨this.symm,HT.out.2.2.2⟩
   clear HT
   go_wp2
   go_ret
   exact ⟨ret_bool HE.out.1.symm,HE.out.2⟩
theorem allS_drop {f:St -> Bool} {l:List St} {k:Nat} {s:St} (h:l[k]? = some s):(l.drop k).all f = (f s && (l.drop (k + 1)).all f):=by
 rw [dropP h]
 rfl
theorem rightStates_calls (x:Rc) (da:Option Addr) (dn dc:Nat) (sa:Option Addr) (sn sc:Nat) (ta:Option Addr) (tn tc:Nat) (w:World) (h:RcAt w x da dn sa sn ta tn) :
 Calls Tryz.prog 72 #[.agg (rcCells x da dn dc sa sn sc ta tn tc)] w fun e w'=>e = .returned (.bool (statesR x)) /\ Below w.heap.size w w':=by
 have hdn:=h.defs.short
 have htn:=h.states.short
 have HM:Hid (dn <= maxLen /\ tn <= maxLen):=⟨hdn,htn⟩
 have e1:=h.defs.length
 have e2:=h.states.length
 have HB:Hid (Rb w (rcCells x da dn dc sa sn sc ta tn tc) (w.alloc (.cells (rcCells x da dn dc sa sn sc ta tn tc) 26))):=Rb.start w _
 have HS:Hid (StsAt w ta tn x.states):=h.states
 have HN:Hid (statesR x = (decide (tn <= 9) && (x.states.drop 0).all (stateB tn dn))):=by show statesR x = _; unfold statesR; rw [e1,e2,List.drop_zero]
 unfold maxLen at hdn htn
 clear h e1 e2
 obtain ⟨R,hR⟩:∃ R,statesR x = R:=⟨_,rfl⟩
 rw [hR] at HN ⊢
 clear hR
 obtain ⟨L,defs,subst,beg,fin,front,back,banded,lo,hi,states⟩:=x
 unfold rcCells at HB ⊢
 simp only at HN HB HS ⊢
 by_cases h9:9 < tn
 ·have k9:decide ((9:Int) < (tn:Int)) = true:=by simp; omega
  rw [show decide (tn <= 9) = false by simp; omega] at HN
  go_enter Tryz.func72,Tryz.ntmps72
  go_wp2
  go_ret
  exact ⟨ret_bool (by rw [HN.out]; rfl),HB.out.low⟩
 ·have k9:decide ((9:Int) < (tn:Int)) = false:=by simp; omega
  rw [show decide (tn <= 9) = true by simp; omega] at HN
  have HR:Hid ((states.drop 0).all (stateB tn dn) = R):=by rw [HN.out]; rfl
  clear HN
  go_enter Tryz.func72,Tryz.ntmps72
  go_wp2
  go_loopw [4,12] (fun _ iv wr=>∃ (k:Nat),k <= tn /\ iv = I J k /\ Hid ((states.drop k).all (stateB tn dn) = R /\ Rb w #[I J L,.slice da dn dc,.slice sa sn sc,I J beg,I J fin,I J front,I J back,.bool banded,I J lo,I J hi,.slice ta tn tc] wr)) (fun _ i _=>tn - (intOf i).toNat)
  case atStart=>exact ⟨0,Nat.zero_le _,rfl,HR.out,HB.out⟩
  case round=>
   clear HR HB
   obtain ⟨k,hk,rfl,HT⟩:=hrel
   by_cases hlt:k < tn
   ·obtain ⟨d,hdi⟩:∃ d,states[k]? = some d:=⟨states[k]'(by rw [HS.out.length]; exact hlt),List.getElem?_eq_getElem _⟩
    obtain ⟨b,off,rfl,hcs⟩:=(HS.out.below HT.out.2.low).cells (by omega)
    obtain ⟨ea,en,ec,c1,c2,hpc⟩:=hcs k d hdi
    have hen:=hpc.short
    unfold maxLen at hen
    have HE:Hid ((inI d.1 1 3 && edgesB tn dn (-1) d.2 && (states.drop (k + 1)).all (stateB tn dn)) = R):=by
     have:=HT.out.1
     rw [allS_drop hdi] at this
     exact this
    obtain ⟨kd,es⟩:=d
    simp only at c1 c2 HE hpc
    have HPC:Hid (PcsAt wr ea en es):=hpc
    have HX:Hid (Rb w #[I J L,.slice da dn dc,.slice sa sn sc,I J beg,I J fin,I J front,I J back,.bool banded,I J lo,I J hi,.slice (some ⟨b,off,none⟩) tn tc] (wr.alloc (.cells #[I J kd,.slice ea en ec] 42))):=HT.out.2.alloc _
    have x1:(wr.alloc (.cells #[I J kd,.slice ea en ec] 42)).cell? ⟨w.heap.size,1,none⟩ = some (.slice da dn dc):=blk HX.out.box rfl
    have x10:(wr.alloc (.cells #[I J kd,.slice ea en ec] 42)).cell? ⟨w.heap.size,10,none⟩ = some (.slice (some ⟨b,off,none⟩) tn tc):=blk HX.out.box rfl
    clear hcs hdi hpc
    go_wp2_with fail
    refine (inI_calls kd 1 3 _).mono ?_
    rintro e w1 ⟨rfl,rfl⟩
    cases hr:inI kd 1 3 with
    | false=>
      rw [hr] at HE
      go_wp2
      go_ret
      exact ⟨ret_bool (by rw [<- HE.out]; rfl),HX.out.low⟩
    | true=>
      rw [hr] at HE
      clear hr
      go_wp2_with fail
      refine (rightEdges_calls tn dn es ea en ec _ HM.out.2 HM.out.1 (HPC.out.below ((Below.refl _ _).alloc (Nat.le_refl _) _))).mono ?_
      rintro e w2 ⟨rfl,hb2⟩
      have HX2:Hid (Rb w #[I J L,.slice da dn dc,.slice sa sn sc,I J beg,I J fin,I J front,I J back,.bool banded,I J lo,I J hi,.slice (some ⟨b,off,none⟩) tn tc] w2):=HX.out.next hb2
      clear hb2 x1 x10 c1 c2
      cases hr2:edgesB tn dn (-1) es with
      | false=>
        rw [hr2] at HE
        go_wp2
        go_ret
        exact ⟨ret_bool (by rw [<- HE.out]; rfl),HX2.out.low⟩
      | true=>
        rw [hr2] at HE
        clear hr2
        go_wp2
        go_roundw
        case rel=>exact ⟨k + 1,by omega,by go_num,by rw [<- HE.out]; rfl,HX2.out⟩
        case measure=>simp [intOf]; omega
   ·have HE:Hid (R = true /\ Below w.heap.size w wr):=by
     have:=HT.out.1
     rw [List.drop_eq_nil_of_le (by rw [HS.out.length]; omega)] at this
     exact ⟨this.symm,HT.out.2.low⟩
    clear HT
    go_wp2
    go_ret
    exact ⟨ret_bool HE.out.1.symm,HE.out.2⟩
theorem rightR_calls (x:Rc) (da:Option Addr) (dn dc:Nat) (sa:Option Addr) (sn sc:Nat) (ta:Option Addr) (tn tc:Nat) (w:World) (h:RcAt w x da dn sa sn ta tn) :
 Calls Tryz.prog 37 #[.agg (rcCells x da dn dc sa sn sc ta tn tc)] w fun e w'=>e = .returned (.bool (rightR x)) /\ Below w.heap.size w w':=by
 have HB:Hid (Rb w (rcCells x da dn dc sa sn sc ta tn tc) (w.alloc (.cells (rcCells x da dn dc sa sn sc ta tn tc) 26))):=Rb.start w _
 have HS:Hid (RcAt w x da dn sa sn ta tn):=h
 have HN:Hid (rightR x = (decide ((valsB x.defs).2 = 0) && (substR x && (endsR x (valsB x.defs).1 && (bandR x && statesR x))))):=rfl
 have HC1:Hid (∀ W,Rb w (rcCells x da dn dc sa sn sc ta tn tc) W -> Calls Tryz.prog 69 #[.agg (rcCells x da dn dc sa sn sc ta tn tc)] W fun e w'=>e = .returned (.bool (substR x)) /\ Below W.heap.size W w'):=fun W hW=>rightSubst_calls x da dn dc sa sn sc ta tn tc W (h.below hW.low)
 have HC2:Hid (∀ W vo vc,IntA W vo (valsB x.defs).1.length (valsB x.defs).1 -> Calls Tryz.prog 70 #[.agg (rcCells x da dn dc sa sn sc ta tn tc),.slice vo (valsB x.defs).1.length vc] W fun e w'=>e = .returned (.bool (endsR x (valsB x.defs).1)) /\ Below W.heap.size W w'):=fun W vo vc hW=>rightEnds_calls x da dn dc sa sn sc ta tn tc _ vo _ vc W hW
 have HC3:Hid (∀ W,Calls Tryz.prog 71 #[.agg (rcCells x da dn dc sa sn sc ta tn tc)] W fun e w'=>e = .returned (.bool (bandR x)) /\ Below W.heap.size W w'):=fun W=>rightBand_calls x da dn dc sa sn sc ta tn tc W
 have HC4:Hid (∀ W,Rb w (rcCells x da dn dc sa sn sc ta tn tc) W -> Calls Tryz.prog 72 #[.agg (rcCells x da dn dc sa sn sc ta tn tc)] W fun e w'=>e = .returned (.bool (statesR x)) /\ Below W.heap.size W w'):=fun W hW=>rightStates_calls x da dn dc sa sn sc ta tn tc W (h.below hW.low)
 clear h
 have hfew:=valsB_few x.defs
 obtain ⟨R,hR⟩:∃ R,rightR x = R:=⟨_,rfl⟩
 obtain ⟨S1,hS1⟩:∃ R,substR x = R:=⟨_,rfl⟩
 obtain ⟨S2,hS2⟩:∃ R,endsR x (valsB x.defs).1 = R:=⟨_,rfl⟩
 obtain ⟨S3,hS3⟩:∃ R,bandR x = R:=⟨_,rfl⟩
 obtain ⟨S4,hS4⟩:∃ R,statesR x = R:=⟨_,rfl⟩
 rw [hR] at HN ⊢
 rw [hS1] at HN HC1
 rw [hS2] at HN HC2
 rw [hS3] at HN HC3
 rw [hS4] at HN HC4
 clear hR hS1 hS2 hS3 hS4
 obtain ⟨L,defs,subst,beg,fin,front,back,banded,lo,hi,states⟩:=x
 unfold rcCells at HB HC1 HC2 HC3 HC4 ⊢
 simp only at HN HB HS HC1 HC2 HC3 HC4 hfew ⊢
 go_enter Tryz.func37,Tryz.ntmps37
 go_wp2_with fail
 refine (values_calls defs da dn dc _ (HS.out.defs.below HB.out.low)).mono ?_
 rintro e w1 ⟨vo,vc,rfl,hown,hb1⟩
 have HX:Hid (Rb w #[I J L,.slice da dn dc,.slice sa sn sc,I J beg,I J fin,I J front,I J back,.bool banded,I J lo,I J hi,.slice ta tn tc] w1 /\ IntA w1 vo (valsB defs).1.length (valsB defs).1):=⟨HB.out.next hb1,intA_own hown rfl (by unfold maxLen; omega)⟩
 clear hown hb1 HB
 have c0:w1.cell? ⟨w.heap.size,0,none⟩ = some (I J L):=blk HX.out.1.box rfl
 have c1:w1.cell? ⟨w.heap.size,1,none⟩ = some (.slice da dn dc):=blk HX.out.1.box rfl
 have c2:w1.cell? ⟨w.heap.size,2,none⟩ = some (.slice sa sn sc):=blk HX.out.1.box rfl
 have c3:w1.cell? ⟨w.heap.size,3,none⟩ = some (I J beg):=blk HX.out.1.box rfl
 have c4:w1.cell? ⟨w.heap.size,4,none⟩ = some (I J fin):=blk HX.out.1.box rfl
 have c5:w1.cell? ⟨w.heap.size,5,none⟩ = some (I J front):=blk HX.out.1.box rfl
 have c6:w1.cell? ⟨w.heap.size,6,none⟩ = some (I J back):=blk HX.out.1.box rfl
 have c7:w1.cell? ⟨w.heap.size,7,none⟩ = some (.bool banded):=blk HX.out.1.box rfl
 have c8:w1.cell? ⟨w.heap.size,8,none⟩ = some (I J lo):=blk HX.out.1.box rfl
 have c9:w1.cell? ⟨w.heap.size,9,none⟩ = some (I J hi):=blk HX.out.1.box rfl
 have c10:w1.cell? ⟨w.heap.size,10,none⟩ = some (.slice ta tn tc):=blk HX.out.1.box rfl
 generalize (valsB defs).2 = er at *
 by_cases hz:er = 0
 ·subst hz
  have n0:((0:Int) != 0) = false:=rfl
  rw [decide_eq_true rfl] at HN
  generalize (valsB defs).1 = vs at *
  go_wp2_with fail
  refine (HC1.out w1 HX.out.1).mono ?_
  rintro e w2 ⟨rfl,hb2⟩
  have HX2:Hid (Rb w #[I J L,.slice da dn dc,.slice sa sn sc,I J beg,I J fin,I J front,I J back,.bool banded,I J lo,I J hi,.slice ta tn tc] w2 /\ IntA w2 vo vs.length vs):=⟨HX.out.1.next hb2,HX.out.2.below hb2⟩
  clear hb2 HX c0 c1 c2 c3 c4 c5 c6 c7 c8 c9 c10
  cases S1 with
  | false=>
    go_wp2
    go_ret
    exact ⟨ret_bool (by rw [HN.out]; rfl),HX2.out.1.low⟩
  | true=>
    have c0:w2.cell? ⟨w.heap.size,0,none⟩ = some (I J L):=blk HX2.out.1.box rfl
    have c1:w2.cell? ⟨w.heap.size,1,none⟩ = some (.slice da dn dc):=blk HX2.out.1.box rfl
    have c2:w2.cell? ⟨w.heap.size,2,none⟩ = some (.slice sa sn sc):=blk HX2.out.1.box rfl
    have c3:w2.cell? ⟨w.heap.size,3,none⟩ = some (I J beg):=blk HX2.out.1.box rfl
    have c4:w2.cell? ⟨w.heap.size,4,none⟩ = some (I J fin):=blk HX2.out.1.box rfl
    have c5:w2.cell? ⟨w.heap.size,5,none⟩ = some (I J front):=blk HX2.out.1.box rfl
    have c6:w2.cell? ⟨w.heap.size,6,none⟩ = some (I J back):=blk HX2.out.1.box rfl
    have c7:w2.cell? ⟨w.heap.size,7,none⟩ = some (.bool banded):=blk HX2.out.1.box rfl
    have c8:w2.cell? ⟨w.heap.size,8,none⟩ = some (I J lo):=blk HX2.out.1.box rfl
    have c9:w2.cell? ⟨w.heap.size,9,none⟩ = some (I J hi):=blk HX2.out.1.box rfl
    have c10:w2.cell? ⟨w.heap.size,10,none⟩ = some (.slice ta tn tc):=blk HX2.out.1.box rfl
    go_wp2_with fail
    refine (HC2.out w2 vo vc HX2.out.2).mono ?_
    rintro e w3 ⟨rfl,hb3⟩
    have HX3:Hid (Rb w #[I J L,.slice da dn dc,.slice sa sn sc,I J beg,I J fin,I J front,I J back,.bool banded,I J lo,I J hi,.slice ta tn tc] w3):=HX2.out.1.next hb3
    clear hb3 HX2 c0 c1 c2 c3 c4 c5 c6 c7 c8 c9 c10
    cases S2 with
    | false=>
      go_wp2
      go_ret
      exact ⟨ret_bool (by rw [HN.out]; rfl),HX3.out.low⟩
    | true=>
      have c0:w3.cell? ⟨w.heap.size,0,none⟩ = some (I J L):=blk HX3.out.box rfl
      have c1:w3.cell? ⟨w.heap.size,1,none⟩ = some (.slice da dn dc):=blk HX3.out.box rfl
      have c2:w3.cell? ⟨w.heap.size,2,none⟩ = some (.slice sa sn sc):=blk HX3.out.box rfl
      have c3:w3.cell? ⟨w.heap.size,3,none⟩ = some (I J beg):=blk HX3.out.box rfl
      have c4:w3.cell? ⟨w.heap.size,4,none⟩ = some (I J fin):=blk HX3.out.box rfl
      have c5:w3.cell? ⟨w.heap.size,5,none⟩ = some (I J front):=blk HX3.out.box rfl
      have c6:w3.cell? ⟨w.heap.size,6,none⟩ = some (I J back):=blk HX3.out.box rfl
      have c7:w3.cell? ⟨w.heap.size,7,none⟩ = some (.bool banded):=blk HX3.out.box rfl
      have c8:w3.cell? ⟨w.heap.size,8,none⟩ = some (I J lo):=blk HX3.out.box rfl
      have c9:w3.cell? ⟨w.heap.size,9,none⟩ = some (I J hi):=blk HX3.out.box rfl
      have c10:w3.cell? ⟨w.heap.size,10,none⟩ = some (.slice ta tn tc):=blk HX3.out.box rfl
      go_wp2_with fail
      refine (HC3.out w3).mono ?_
      rintro e w4 ⟨rfl,hb4⟩
      have HX4:Hid (Rb w #[I J L,.slice da dn dc,.slice sa sn sc,I J beg,I J fin,I J front,I J back,.bool banded,I J lo,I J hi,.slice ta tn tc] w4):=HX3.out.next hb4
      clear hb4 HX3 c0 c1 c2 c3 c4 c5 c6 c7 c8 c9 c10
      cases S3 with
      | false=>
        go_wp2
        go_ret
        exact ⟨ret_bool (by rw [HN.out]; rfl),HX4.out.low⟩
      | true=>
        have c0:w4.cell? ⟨w.heap.size,0,none⟩ = some (I J L):=blk HX4.out.box rfl
        have c1:w4.cell? ⟨w.heap.size,1,none⟩ = some (.slice da dn dc):=blk HX4.out.box rfl
        have c2:w4.cell? ⟨w.heap.size,2,none⟩ = some (.slice sa sn sc):=blk HX4.out.box rfl
        have c3:w4.cell? ⟨w.heap.size,3,none⟩ = some (I J beg):=blk HX4.out.box rfl
        have c4:w4.cell? ⟨w.heap.size,4,none⟩ = some (I J fin):=blk HX4.out.box rfl
        have c5:w4.cell? ⟨w.heap.size,5,none⟩ = some (I J front):=blk HX4.out.box rfl
        have c6:w4.cell? ⟨w.heap.size,6,none⟩ = some (I J back):=blk HX4.out.box rfl
        have c7:w4.cell? ⟨w.heap.size,7,none⟩ = some (.bool banded):=blk HX4.out.box rfl
        have c8:w4.cell? ⟨w.heap.size,8,none⟩ = some (I J lo):=blk HX4.out.box rfl
        have c9:w4.cell? ⟨w.heap.size,9,none⟩ = some (I J hi):=blk HX4.out.box rfl
        have c10:w4.cell? ⟨w.heap.size,10,none⟩ = some (.slice ta tn tc):=blk HX4.out.box rfl
        go_wp2_with fail
        refine (HC4.out w4 HX4.out).mono ?_
        rintro e w5 ⟨rfl,hb5⟩
        have HX5:Hid (Below w.heap.size w w5):=(HX4.out.next hb5).low
        clear hb5 HX4 c0 c1 c2 c3 c4 c5 c6 c7 c8 c9 c10
        go_wp2
        go_ret
        exact ⟨ret_bool (by rw [HN.out]; rfl),HX5.out⟩
 ·have n0:(er != 0) = true:=by simpa using hz
  rw [decide_eq_false hz] at HN
  go_wp2
  go_ret
  exact ⟨ret_bool (by rw [HN.out]; rfl),HX.out.1.low⟩
set_option maxRecDepth 20000
set_option maxHeartbeats 4000000
def itL (i:It) (ka:Option Addr) (kn kc:Nat):List Value:=[I J i.kind,.string (bs i.name),.slice ka kn kc,I J i.pl]
def itV (i:It) (ka:Option Addr) (kn kc:Nat):Value:=.agg #[I J i.kind,.string (bs i.name),.slice ka kn kc,I J i.pl]
theorem below_put {B g:Nat} {w V:World} (h:Below B w V) (hg:B <= g) (i:Nat) (u:Value):Below B w (V.setCell ⟨g,i,none⟩ u):=h.setCell (show B <= (⟨g,i,none⟩:Addr).block from hg) u
theorem CkAt.hadk {O:Nat -> Prop} {b:Nat} {s:Sl} {c:Ck} {w:World} (h:CkAt O b s c w) {k:Nat} (hk:k <= 10):w.cell? ⟨b,13 + k,none⟩ = some (.bool (c.had k)):=by
 refine blk h.block ?_
 have:k = 0 \/ k = 1 \/ k = 2 \/ k = 3 \/ k = 4 \/ k = 5 \/ k = 6 \/ k = 7 \/ k = 8 \/ k = 9 \/ k = 10:=by omega
 rcases this with rfl | rfl | rfl | rfl | rfl | rfl | rfl | rfl | rfl | rfl | rfl <;> rfl
theorem twice_let {O:Nat -> Prop} {b:Nat} {s:Sl} {c:Ck} (i:It) (ka:Option Addr) (kn kc:Nat) (w:World) (hck:CkAt O b s c w) (hk:i.kind = 1) (hn:i.name.length <= maxLen) :
 Calls Tryz.prog 89 #[.pointer (some ⟨b,0,none⟩),itV i ka kn kc] w fun e w'=>e = .returned (.bool (lookN c.names i.name).isSome) /\ Below w.heap.size w w':=by
 obtain ⟨r,hr⟩:∃ r,r = lookN c.names i.name:=⟨_,rfl⟩
 obtain ⟨m,hm⟩:∃ m,m = r.getD mn0:=⟨_,rfl⟩
 obtain ⟨found,hfo⟩:∃ f,f = r.isSome:=⟨_,rfl⟩
 rw [<- hr,<- hfo]
 have hA:∀ W,Below w.heap.size w W -> W.heap[w.heap.size]? = some (.cells (itL i ka kn kc).toArray 140 (0,0)) -> W.cell? ⟨b,12,none⟩ = some (.map (some s.mb)) /\ W.cell? ⟨w.heap.size,1,none⟩ = some (.string (bs i.name)) /\ (Instr.lookup 143 (.map (some s.mb)) (.string (bs i.name)) true).run Tryz.prog W = .ok (.tuple #[.agg #[.bool m.isText,.string (bs m.text),I J m.place,I J m.num],.bool found]) W:=fun W hW hb=>by
  have hc:=hck.below hW
  have:=nm_look hc.names i.name hn
  rw [<- hr,<- hm,<- hfo] at this
  exact ⟨hc.c12,blk hb rfl,this⟩
 obtain ⟨mt,mx,mp,mn⟩:=m
 simp only at hA
 obtain ⟨bx,hbx⟩:∃ bx,bx = bs mx:=⟨_,rfl⟩
 rw [<- hbx] at hA
 obtain ⟨tx,htx⟩:∃ tx,tx = bs i.name:=⟨_,rfl⟩
 rw [<- htx] at hA
 have HSS:Hid (∀ W,Below (w.heap.size + 1) (w.alloc (.cells #[I J i.kind,.string tx,.slice ka kn kc,I J i.pl] 140)) W -> W.cell? ⟨b,12,none⟩ = some (.map (some s.mb)) /\ W.cell? ⟨w.heap.size,1,none⟩ = some (.string tx) /\ (Instr.lookup 143 (.map (some s.mb)) (.string tx) true).run Tryz.prog W = .ok (.tuple #[.agg #[.bool mt,.string bx,I J mp,I J mn],.bool found]) W):=fun W hW=>by
  refine hA W (((Below.refl w.heap.size w).alloc (Nat.le_refl _) (.cells #[I J i.kind,.string tx,.slice ka kn kc,I J i.pl] 140)).trans ⟨hW.os,hW.tape,hW.output,hW.size,fun q hq=>hW.block q (by omega)⟩) ?_
  rw [hW.block _ (by omega),htx]
  exact heap_alloc_new w _
 have hq:(i.kind == 1) = true:=by rw [beq_iff_eq]; exact hk
 unfold itV
 rw [<- htx]
 clear hA hck hn hr hm hfo hbx htx hk
 go_enter Tryz.func89,Tryz.ntmps89
 go_upto_region 3 with (fail)
 have hs0:(w.alloc (.cells #[I J i.kind,.string tx,.slice ka kn kc,I J i.pl] 140)).heap.size = w.heap.size + 1:=by simp
 obtain ⟨w1,hw1⟩:∃ w1,w1 = w.alloc (.cells #[I J i.kind,.string tx,.slice ka kn kc,I J i.pl] 140):=⟨_,rfl⟩
 rw [<- hw1] at HSS hs0 ⊢
 have HB1:Hid (∀ W,Below (w.heap.size + 1) w1 W -> Below w.heap.size w W):=fun W hW=>by
  rw [hw1] at hW
  exact ((Below.refl w.heap.size w).alloc (Nat.le_refl _) _).trans ⟨hW.os,hW.tape,hW.output,hW.size,fun q hq=>hW.block q (by omega)⟩
 have hb0:Below (w.heap.size + 1) w1 w1.drew:=by rw [<- hs0]; exact (Below.refl _ _).drew
 clear hw1 hq
 ·have HS0:Hid (w1.drew.cell? ⟨b,12,none⟩ = some (.map (some s.mb)) /\ w1.drew.cell? ⟨w.heap.size,1,none⟩ = some (.string tx) /\ (Instr.lookup 143 (.map (some s.mb)) (.string tx) true).run Tryz.prog w1.drew = .ok (.tuple #[.agg #[.bool mt,.string bx,I J mp,I J mn],.bool found]) w1.drew):=HSS.out _ hb0
  refine wp_region_Y (fun j=>[].contains j) (fun W=>W.cell? ⟨b,12,none⟩ = some (.map (some s.mb)) /\ W.cell? ⟨w.heap.size,1,none⟩ = some (.string tx) /\ (Instr.lookup 143 (.map (some s.mb)) (.string tx) true).run Tryz.prog W = .ok (.tuple #[.agg #[.bool mt,.string bx,I J mp,I J mn],.bool found]) W) (by kernel_rfl) ?_
  refine wpAnyY_takeD (i:=0) 12 (v:=.pointer (some ⟨b,0,none⟩)) rfl rfl (by kernel_rfl) (by kernel_rfl) (late_of (by kernel_rfl)) (by kernel_rfl) (by kernel_rfl) (fun _ _ _ h=>h) HS0.out (Or.inl ⟨by rfl,by (intro W hW; obtain ⟨_,_,_⟩:=hW; go_simp)⟩) ?_
  simp only [Act.put,lA,lB,lC]
  refine wpAnyY_takeD (i:=1) 13 (v:=.pointer (some ⟨b,0,none⟩)) rfl rfl (by kernel_rfl) (by kernel_rfl) (late_of (by kernel_rfl)) (by kernel_rfl) (by kernel_rfl) (fun _ _ _ h=>h) HS0.out (Or.inl ⟨by rfl,by (intro W hW; obtain ⟨_,_,_⟩:=hW; go_simp)⟩) ?_
  simp only [Act.put,lA,lB,lC]
  refine wpAnyY_takeD (i:=2) 14 (v:=.pointer (some ⟨b,12,none⟩)) rfl rfl (by kernel_rfl) (by kernel_rfl) (late_of (by kernel_rfl)) (by kernel_rfl) (by kernel_rfl) (fun _ _ _ h=>h) HS0.out (Or.inl ⟨by rfl,by (intro W hW; obtain ⟨_,_,_⟩:=hW; go_simp)⟩) ?_
  simp only [Act.put,lA,lB,lC]
  refine wpAnyY_takeD (i:=3) 15 (v:=.map (some s.mb)) rfl rfl (by kernel_rfl) (by kernel_rfl) (late_of (by kernel_rfl)) (by kernel_rfl) (by kernel_rfl) (fun _ _ _ h=>h) HS0.out (Or.inl ⟨by rfl,by (intro W hW; obtain ⟨_,_,_⟩:=hW; go_simp)⟩) ?_
  simp only [Act.put,lA,lB,lC]
  refine wpAnyY_takeD (i:=4) 16 (v:=.pointer (some ⟨w.heap.size,1,none⟩)) rfl rfl (by kernel_rfl) (by kernel_rfl) (late_of (by kernel_rfl)) (by kernel_rfl) (by kernel_rfl) (fun _ _ _ h=>h) HS0.out (Or.inl ⟨by rfl,by (intro W hW; obtain ⟨_,_,_⟩:=hW; go_simp)⟩) ?_
  simp only [Act.put,lA,lB,lC]
  refine wpAnyY_takeD (i:=5) 17 (v:=.string tx) rfl rfl (by kernel_rfl) (by kernel_rfl) (late_of (by kernel_rfl)) (by kernel_rfl) (by kernel_rfl) (fun _ _ _ h=>h) HS0.out (Or.inl ⟨by rfl,by (intro W hW; obtain ⟨_,_,_⟩:=hW; go_simp)⟩) ?_
  simp only [Act.put,lA,lB,lC]
  refine wpAnyY_takeD (i:=6) 18 (v:=.tuple #[.agg #[.bool mt,.string bx,I J mp,I J mn],.bool found]) rfl rfl (by kernel_rfl) (by kernel_rfl) (late_of (by kernel_rfl)) (by kernel_rfl) (by kernel_rfl) (fun _ _ _ h=>h) HS0.out (Or.inl ⟨by rfl,by (intro W hW; obtain ⟨_,_,_⟩:=hW; go_simp)⟩) ?_
  simp only [Act.put,lA,lB,lC]
  refine wpAnyY_takeD (i:=7) 11 (v:=.tuple #[.agg #[.bool mt,.string bx,I J mp,I J mn],.bool found]) rfl rfl (by kernel_rfl) (by kernel_rfl) (late_of (by kernel_rfl)) (by kernel_rfl) (by kernel_rfl) (fun _ _ _ h=>h) HS0.out (Or.inl ⟨by rfl,by (intro W hW; obtain ⟨_,_,_⟩:=hW; go_simp)⟩) ?_
  simp only [Act.put,lA,lB,lC]
  refine wpAnyY_takeD (i:=8) 19 (v:=.agg #[.bool mt,.string bx,I J mp,I J mn]) rfl rfl (by kernel_rfl) (by kernel_rfl) (late_of (by kernel_rfl)) (by kernel_rfl) (by kernel_rfl) (fun _ _ _ h=>h) HS0.out (Or.inl ⟨by rfl,by (intro W hW; obtain ⟨_,_,_⟩:=hW; go_simp)⟩) ?_
  simp only [Act.put,lA,lB,lC]
  refine wpAnyY_takeD (i:=9) 20 (v:=.bool found) rfl rfl (by kernel_rfl) (by kernel_rfl) (late_of (by kernel_rfl)) (by kernel_rfl) (by kernel_rfl) (fun _ _ _ h=>h) HS0.out (Or.inl ⟨by rfl,by (intro W hW; obtain ⟨_,_,_⟩:=hW; go_simp)⟩) ?_
  simp only [Act.put,lA,lB,lC]
  refine wpAnyY_one (i:=10) rfl (by kernel_rfl) (fun K hK=>?_)
  refine alloc109_step rfl rfl rfl ?_
  intro V g5 hV hG
  have hbV:Below (w.heap.size + 1) w1 V:=by rw [hV]; exact hb0.alloc (by rw [<- hs0]; exact hb0.size) _
  have hlV:w.heap.size + 1 <= g5:=by rw [hG,<- hs0]; exact hb0.size
  have hhV:V.heap[g5]? = some (.cells (mnL mn0).toArray 183 (0,0)):=by rw [hV,hG]; exact heap_alloc_new _ _
  refine hK.out _ _ (fun _=>HSS.out _ hbV) ?_
  clear hK K HS0 hb0 hV hG
  simp only [Act.put,lA,lB,lC]
  refine wpAnyY_one (i:=11) rfl (by kernel_rfl) (fun K hK=>?_)
  refine store109_step rfl rfl rfl rfl rfl hhV ?_
  intro V2 hV2
  have hbV2:Below (w.heap.size + 1) w1 V2:=by rw [hV2]; exact below_put (below_put (below_put (below_put hbV hlV _ _) hlV _ _) hlV _ _) hlV _ _
  refine hK.out _ _ (fun _=>HSS.out _ hbV2) ?_
  clear hK K hV2 hhV hbV
  have HS0:Hid (V2.cell? ⟨b,12,none⟩ = some (.map (some s.mb)) /\ V2.cell? ⟨w.heap.size,1,none⟩ = some (.string tx) /\ (Instr.lookup 143 (.map (some s.mb)) (.string tx) true).run Tryz.prog V2 = .ok (.tuple #[.agg #[.bool mt,.string bx,I J mp,I J mn],.bool found]) V2):=HSS.out _ hbV2
  refine wpAnyY_takeD (i:=12) 6 (v:=.bool found) rfl rfl (by kernel_rfl) (by kernel_rfl) (late_of (by kernel_rfl)) (by kernel_rfl) (by kernel_rfl) (fun _ _ _ h=>h) HS0.out (Or.inl ⟨by rfl,by (intro W hW; obtain ⟨_,_,_⟩:=hW; go_simp)⟩) ?_
  simp only [Act.put,lA,lB,lC]
  refine wpAnyY_done (by kernel_rfl) ?_ _
  go_wp2
  go_ret
  exact ⟨rfl,HB1.out _ hbV2⟩
theorem twice_calls {O:Nat -> Prop} {b:Nat} {s:Sl} {c:Ck} (i:It) (ka:Option Addr) (kn kc:Nat) (w:World) (hck:CkAt O b s c w) (hk1:1 <= i.kind) (hk2:i.kind <= 10) (hn:i.name.length <= maxLen) :
 Calls Tryz.prog 89 #[.pointer (some ⟨b,0,none⟩),itV i ka kn kc] w fun e w'=>e = .returned (.bool (twiceB c i)) /\ Below w.heap.size w w':=by
 by_cases h1:i.kind = 1
 ·unfold twiceB
  rw [if_pos h1]
  exact twice_let i ka kn kc w hck h1 hn
 ·by_cases h56:i.kind = 5 \/ i.kind = 6
  ·unfold twiceB
   rw [if_neg h1,if_pos h56]
   have hq1:(i.kind == 1) = false:=by rw [beq_eq_false_iff_ne]; exact h1
   have HB:Hid (∀ o,Below w.heap.size w (w.alloc o)):=fun o=>(Below.refl _ _).alloc (Nat.le_refl _) o
   unfold itV
   rcases h56 with h5 | h6
   ·have hq5:(i.kind == 5) = true:=by rw [beq_iff_eq]; exact h5
    clear hck hk1 hk2 hn h1 h5
    go_enter Tryz.func89,Tryz.ntmps89
    go_wp2
    go_ret
    exact ⟨rfl,HB.out _⟩
   ·have hq5:(i.kind == 5) = false:=by rw [beq_eq_false_iff_ne]; omega
    have hq6:(i.kind == 6) = true:=by rw [beq_iff_eq]; exact h6
    clear hck hk1 hk2 hn h1 h6
    go_enter Tryz.func89,Tryz.ntmps89
    go_wp2
    go_ret
    exact ⟨rfl,HB.out _⟩
  ·unfold twiceB
   rw [if_neg h1,if_neg h56]
   have hq1:(i.kind == 1) = false:=by rw [beq_eq_false_iff_ne]; exact h1
   have hq5:(i.kind == 5) = false:=by rw [beq_eq_false_iff_ne]; exact fun h=>h56 (.inl h)
   have hq6:(i.kind == 6) = false:=by rw [beq_eq_false_iff_ne]; exact fun h=>h56 (.inr h)
   obtain ⟨k,hkk⟩:∃ k:Nat,i.kind = (k:Int):=⟨i.kind.toNat,by omega⟩
   have hcell:w.cell? ⟨b,13 + k,none⟩ = some (.bool (c.had i.kind.toNat)):=by rw [hkk]; exact hck.hadk (by omega)
   have hlt:b < w.heap.size:=hck.lt
   have HB:Hid (∀ o n,Below w.heap.size w ((w.alloc o).drewN n)):=fun o n=>below_dn ((Below.refl _ _).alloc (Nat.le_refl _) o) n
   obtain ⟨hd,hhd⟩:∃ hd,hd = c.had i.kind.toNat:=⟨_,rfl⟩
   rw [<- hhd] at hcell ⊢
   clear hhd
   unfold itV
   have hk0:(0:Int) <= (k:Int):=by omega
   have hk11:(k:Int) < 11:=by omega
   have hk11':k < 11:=by omega
   rw [hkk] at hq1 hq5 hq6
   rw [hkk]
   clear hck hn h1 h56 hkk hk1 hk2
   go_enter Tryz.func89,Tryz.ntmps89
   go_upto_region 8 with (fail)
   go_quiet (fail)
   go_wp2
   go_ret
   exact ⟨rfl,HB.out _ _⟩
end Go.Proofs.YtbbbnopganhebabGreat
