/-
  What is asked of a recurrence: its states and their edges; the whole. The document's Right of a recurrence. The document's Right of a recurrence: what it refuses at once (1).
-/
import Derived.Deep.RegionHeld3
import Derived.Test.YtidmjjalpbbfkaaGreatG35
import Derived.Test.YtidmjjalpbbfkaaGreatG20
namespace Go.Proofs.YtidmjjalpbbfkaaGreat
open Go.RowKit Go.Deep Go.Maps
set_option maxRecDepth 20000
set_option maxHeartbeats 1000000
theorem dropP {α:Type} {l:List α} {i:Nat} {d:α} (h:l[i]? = some d):l.drop i = d :: l.drop (i + 1):=by
 obtain ⟨h1,h2⟩:=List.getElem?_eq_some_iff.1 h
 rw [List.drop_eq_getElem_cons h1,h2]
theorem rightEdges_calls (m n:Nat) (es:List (Int × Int)) (ea:Option Addr) (en ec:Nat) (w:World) (hm:m <= maxLen) (hn:n <= maxLen) (h:PcsAt w ea en es) :
 Calls Tryz.prog 57 #[.int .i64 (m:Int),.int .i64 (n:Int),.slice ea en ec] w fun e w'=>e = .returned (.bool (edgesB m n (-1) es)) /\ Below w.heap.size w w':=by
 have hen:=h.short
 have HM:Hid (n <= maxLen):=hn
 unfold maxLen at hen hm hn
 have HP:Hid (PcsAt w ea en es):=h
 clear h
 obtain ⟨R,hR⟩:∃ R,edgesB m n (-1) es = R:=⟨_,rfl⟩
 have HR:Hid (edgesB m n (-1) (es.drop 0) = R):=by rw [List.drop_zero]; exact hR
 rw [hR]
 clear hR
 go_enter Tryz.func57,Tryz.ntmps57
 go_wp2
 go_loopw [7,9,12] (fun lv _ iv wr=>∃ (k:Nat) (least:Int),k <= en /\ iv = .int .i64 k /\ lv = .int .i64 least /\ Hid (-1 <= least /\ least <= m /\ edgesB m n least (es.drop k) = R /\ Below w.heap.size w wr)) (fun _ _ i _=>en - (intOf i).toNat)
 case atStart=>exact ⟨0,-1,Nat.zero_le _,rfl,rfl,by omega,by omega,HR.out,Below.refl _ _⟩
 case round=>
  clear HR
  obtain ⟨k,least,hk,rfl,rfl,HT⟩:=hrel
  by_cases hlt:k < en
  ·obtain ⟨d,hdi⟩:∃ d,es[k]? = some d:=⟨es[k]'(by rw [HP.out.length]; exact hlt),List.getElem?_eq_getElem _⟩
   obtain ⟨b,off,rfl,hcs⟩:=(HP.out.below HT.out.2.2.2).cells (by omega)
   obtain ⟨c1,c2⟩:=hcs k d hdi
   have HD:Hid (es.drop k = d :: es.drop (k + 1)):=dropP hdi
   clear hcs hdi
   obtain ⟨s,c⟩:=d
   simp only at c1 c2
   have HE:Hid ((inI s least ((m:Int) - 1) && (decide (c = -1) || inI c 0 ((n:Int) - 1)) && edgesB m n (s + 1) (es.drop (k + 1))) = R /\ Below w.heap.size w (wr.alloc (.cells #[.int .i64 s,.int .i64 c] 54))):=by
    have:=HT.out.2.2.1
    rw [HD.out] at this
    exact ⟨this,HT.out.2.2.2.alloc HT.out.2.2.2.size _⟩
   have hl1:=HT.out.1
   have hl2:=HT.out.2.1
   go_wp2_with fail
   refine (inI_calls s least ((m:Int) - 1) _).mono ?_
   rintro e w1 ⟨rfl,rfl⟩
   cases hr:inI s least ((m:Int) - 1) with
   | false=>
     rw [hr] at HE
     go_wp2
     go_ret
     exact ⟨ret_bool (by rw [<- HE.out.1]; rfl),HE.out.2⟩
   | true=>
     have hs:=inI_iff.1 hr
     obtain ⟨s1,s2⟩:=hs
     rw [hr] at HE
     clear hr
     by_cases hc:c = -1
     ·subst hc
      have kc:((-1:Int) != -1) = false:=rfl
      go_wp2
      go_roundw
      case rel=>exact ⟨k + 1,s + 1,by omega,by go_num,by go_num,by omega,by omega,by rw [<- HE.out.1]; rfl,HE.out.2⟩
      case measure=>simp [intOf]; omega
     ·have kc:(c != -1) = true:=by simpa using hc
      have HB2:Hid (Below w.heap.size w ((wr.alloc (.cells #[.int .i64 s,.int .i64 c] 54)).alloc (.cells #[.int .i64 c] 3))):=HE.out.2.alloc HE.out.2.size _
      go_wp2_with fail
      refine (places_calls n [c] _ 1 1 _ HM.out (one_intA _ c _ (by simp))).mono ?_
      rintro e w1 ⟨rfl,rfl⟩
      have hp:placesB n [c] = inI c 0 ((n:Int) - 1):=by simp [placesB]
      cases hr2:placesB n [c] with
      | false=>
        rw [<- hp,hr2,decide_eq_false hc] at HE
        go_wp2
        go_ret
        exact ⟨ret_bool (by rw [<- HE.out.1]; rfl),HB2.out⟩
      | true=>
        rw [<- hp,hr2,decide_eq_false hc] at HE
        clear hr2 hp
        go_wp2
        go_roundw
        case rel=>exact ⟨k + 1,s + 1,by omega,by go_num,by go_num,by omega,by omega,by rw [<- HE.out.1]; rfl,HB2.out⟩
        case measure=>simp [intOf]; omega
  ·have HE:Hid (R = true /\ Below w.heap.size w wr):=by
    have:=HT.out.2.2.1
    rw [List.drop_eq_nil_of_le (by rw [HP.out.length]; omega)] at this
    exact ⟨this.symm,HT.out.2.2.2⟩
   clear HT
   go_wp2
   go_ret
   exact ⟨ret_bool HE.out.1.symm,HE.out.2⟩
theorem allS_drop {f:St -> Bool} {l:List St} {k:Nat} {s:St} (h:l[k]? = some s):(l.drop k).all f = (f s && (l.drop (k + 1)).all f):=by
 rw [dropP h]
 rfl
theorem rightStates_calls (x:Rc) (da:Option Addr) (dn dc:Nat) (sa:Option Addr) (sn sc:Nat) (ta:Option Addr) (tn tc:Nat) (w:World) (h:RcAt w x da dn sa sn ta tn) :
 Calls Tryz.prog 32 #[.agg (rcCells x da dn dc sa sn sc ta tn tc)] w fun e w'=>e = .returned (.bool (statesR x)) /\ Below w.heap.size w w':=by
 have hdn:=h.defs.short
 have htn:=h.states.short
 have HM:Hid (dn <= maxLen /\ tn <= maxLen):=⟨hdn,htn⟩
 have e1:=h.defs.length
 have e2:=h.states.length
 have HB:Hid (Rb w (rcCells x da dn dc sa sn sc ta tn tc) (w.alloc (.cells (rcCells x da dn dc sa sn sc ta tn tc) 30))):=Rb.start w _
 have HS:Hid (StsAt w ta tn x.states):=h.states
 have HN:Hid (statesR x = (decide (tn <= 9) && (x.states.drop 0).all (stateB tn dn))):=by show statesR x = _; unfold statesR; rw [e1,e2,List.drop_zero]
 unfold maxLen at hdn htn
 clear h e1 e2
 obtain ⟨R,hR⟩:∃ R,statesR x = R:=⟨_,rfl⟩
 rw [hR] at HN ⊢
 clear hR
 obtain ⟨L,defs,subst,beg,fin,front,back,banded,lo,hi,states⟩:=x
 unfold rcCells at HB ⊢
 simp only at HN HB HS ⊢
 by_cases h9:9 < tn
 ·have k9:decide ((9:Int) < (tn:Int)) = true:=by simp; omega
  rw [show decide (tn <= 9) = false by simp; omega] at HN
  go_enter Tryz.func32,Tryz.ntmps32
  go_wp2
  go_ret
  exact ⟨ret_bool (by rw [HN.out]; rfl),HB.out.low⟩
 ·have k9:decide ((9:Int) < (tn:Int)) = false:=by simp; omega
  rw [show decide (tn <= 9) = true by simp; omega] at HN
  have HR:Hid ((states.drop 0).all (stateB tn dn) = R):=by rw [HN.out]; rfl
  clear HN
  go_enter Tryz.func32,Tryz.ntmps32
  go_wp2
  go_loopw [4,12] (fun _ iv wr=>∃ (k:Nat),k <= tn /\ iv = .int .i64 k /\ Hid ((states.drop k).all (stateB tn dn) = R /\ Rb w #[.int .i64 L,.slice da dn dc,.slice sa sn sc,.int .i64 beg,.int .i64 fin,.int .i64 front,.int .i64 back,.bool banded,.int .i64 lo,.int .i64 hi,.slice ta tn tc] wr)) (fun _ i _=>tn - (intOf i).toNat)
  case atStart=>exact ⟨0,Nat.zero_le _,rfl,HR.out,HB.out⟩
  case round=>
   clear HR HB
   obtain ⟨k,hk,rfl,HT⟩:=hrel
   by_cases hlt:k < tn
   ·obtain ⟨d,hdi⟩:∃ d,states[k]? = some d:=⟨states[k]'(by rw [HS.out.length]; exact hlt),List.getElem?_eq_getElem _⟩
    obtain ⟨b,off,rfl,hcs⟩:=(HS.out.below HT.out.2.low).cells (by omega)
    obtain ⟨ea,en,ec,c1,c2,hpc⟩:=hcs k d hdi
    have hen:=hpc.short
    unfold maxLen at hen
    have HE:Hid ((inI d.1 1 3 && edgesB tn dn (-1) d.2 && (states.drop (k + 1)).all (stateB tn dn)) = R):=by
     have:=HT.out.1
     rw [allS_drop hdi] at this
     exact this
    obtain ⟨kd,es⟩:=d
    simp only at c1 c2 HE hpc
    have HPC:Hid (PcsAt wr ea en es):=hpc
    have HX:Hid (Rb w #[.int .i64 L,.slice da dn dc,.slice sa sn sc,.int .i64 beg,.int .i64 fin,.int .i64 front,.int .i64 back,.bool banded,.int .i64 lo,.int .i64 hi,.slice (some ⟨b,off,none⟩) tn tc] (wr.alloc (.cells #[.int .i64 kd,.slice ea en ec] 52))):=HT.out.2.alloc _
    have x1:(wr.alloc (.cells #[.int .i64 kd,.slice ea en ec] 52)).cell? ⟨w.heap.size,1,none⟩ = some (.slice da dn dc):=blk HX.out.box rfl
    have x10:(wr.alloc (.cells #[.int .i64 kd,.slice ea en ec] 52)).cell? ⟨w.heap.size,10,none⟩ = some (.slice (some ⟨b,off,none⟩) tn tc):=blk HX.out.box rfl
    clear hcs hdi hpc
    go_wp2_with fail
    refine (inI_calls kd 1 3 _).mono ?_
    rintro e w1 ⟨rfl,rfl⟩
    cases hr:inI kd 1 3 with
    | false=>
      rw [hr] at HE
      go_wp2
      go_ret
      exact ⟨ret_bool (by rw [<- HE.out]; rfl),HX.out.low⟩
    | true=>
      rw [hr] at HE
      clear hr
      go_wp2_with fail
      refine (rightEdges_calls tn dn es ea en ec _ HM.out.2 HM.out.1 (HPC.out.below ((Below.refl _ _).alloc (Nat.le_refl _) _))).mono ?_
      rintro e w2 ⟨rfl,hb2⟩
      have HX2:Hid (Rb w #[.int .i64 L,.slice da dn dc,.slice sa sn sc,.int .i64 beg,.int .i64 fin,.int .i64 front,.int .i64 back,.bool banded,.int .i64 lo,.int .i64 hi,.slice (some ⟨b,off,none⟩) tn tc] w2):=HX.out.next hb2
      clear hb2 x1 x10 c1 c2
      cases hr2:edgesB tn dn (-1) es with
      | false=>
        rw [hr2] at HE
        go_wp2
        go_ret
        exact ⟨ret_bool (by rw [<- HE.out]; rfl),HX2.out.low⟩
      | true=>
        rw [hr2] at HE
        clear hr2
        go_wp2
        go_roundw
        case rel=>exact ⟨k + 1,by omega,by go_num,by rw [<- HE.out]; rfl,HX2.out⟩
        case measure=>simp [intOf]; omega
   ·have HE:Hid (R = true /\ Below w.heap.size w wr):=by
     have:=HT.out.1
     rw [List.drop_eq_nil_of_le (by rw [HS.out.length]; omega)] at this
     exact ⟨this.symm,HT.out.2.low⟩
    clear HT
    go_wp2
    go_ret
    exact ⟨ret_bool HE.out.1.symm,HE.out.2⟩
theorem rightR_calls (x:Rc) (da:Option Addr) (dn dc:Nat) (sa:Option Addr) (sn sc:Nat) (ta:Option Addr) (tn tc:Nat) (w:World) (h:RcAt w x da dn sa sn ta tn) :
 Calls Tryz.prog 11 #[.agg (rcCells x da dn dc sa sn sc ta tn tc)] w fun e w'=>e = .returned (.bool (rightR x)) /\ Below w.heap.size w w':=by
 have HB:Hid (Rb w (rcCells x da dn dc sa sn sc ta tn tc) (w.alloc (.cells (rcCells x da dn dc sa sn sc ta tn tc) 30))):=Rb.start w _
 have HS:Hid (RcAt w x da dn sa sn ta tn):=h
 have HN:Hid (rightR x = (decide ((valsB x.defs).2 = 0) && (substR x && (endsR x (valsB x.defs).1 && (bandR x && statesR x))))):=rfl
 have HC1:Hid (∀ W,Rb w (rcCells x da dn dc sa sn sc ta tn tc) W -> Calls Tryz.prog 29 #[.agg (rcCells x da dn dc sa sn sc ta tn tc)] W fun e w'=>e = .returned (.bool (substR x)) /\ Below W.heap.size W w'):=fun W hW=>rightSubst_calls x da dn dc sa sn sc ta tn tc W (h.below hW.low)
 have HC2:Hid (∀ W vo vc,IntA W vo (valsB x.defs).1.length (valsB x.defs).1 -> Calls Tryz.prog 30 #[.agg (rcCells x da dn dc sa sn sc ta tn tc),.slice vo (valsB x.defs).1.length vc] W fun e w'=>e = .returned (.bool (endsR x (valsB x.defs).1)) /\ Below W.heap.size W w'):=fun W vo vc hW=>rightEnds_calls x da dn dc sa sn sc ta tn tc _ vo _ vc W hW
 have HC3:Hid (∀ W,Calls Tryz.prog 31 #[.agg (rcCells x da dn dc sa sn sc ta tn tc)] W fun e w'=>e = .returned (.bool (bandR x)) /\ Below W.heap.size W w'):=fun W=>rightBand_calls x da dn dc sa sn sc ta tn tc W
 have HC4:Hid (∀ W,Rb w (rcCells x da dn dc sa sn sc ta tn tc) W -> Calls Tryz.prog 32 #[.agg (rcCells x da dn dc sa sn sc ta tn tc)] W fun e w'=>e = .returned (.bool (statesR x)) /\ Below W.heap.size W w'):=fun W hW=>rightStates_calls x da dn dc sa sn sc ta tn tc W (h.below hW.low)
 clear h
 have hfew:=valsB_few x.defs
 obtain ⟨R,hR⟩:∃ R,rightR x = R:=⟨_,rfl⟩
 obtain ⟨S1,hS1⟩:∃ R,substR x = R:=⟨_,rfl⟩
 obtain ⟨S2,hS2⟩:∃ R,endsR x (valsB x.defs).1 = R:=⟨_,rfl⟩
 obtain ⟨S3,hS3⟩:∃ R,bandR x = R:=⟨_,rfl⟩
 obtain ⟨S4,hS4⟩:∃ R,statesR x = R:=⟨_,rfl⟩
 rw [hR] at HN ⊢
 rw [hS1] at HN HC1
 rw [hS2] at HN HC2
 rw [hS3] at HN HC3
 rw [hS4] at HN HC4
 clear hR hS1 hS2 hS3 hS4
 obtain ⟨L,defs,subst,beg,fin,front,back,banded,lo,hi,states⟩:=x
 unfold rcCells at HB HC1 HC2 HC3 HC4 ⊢
 simp only at HN HB HS HC1 HC2 HC3 HC4 hfew ⊢
 go_enter Tryz.func11,Tryz.ntmps11
 go_wp2_with fail
 refine (values_calls defs da dn dc _ (HS.out.defs.below HB.out.low)).mono ?_
 rintro e w1 ⟨vo,vc,rfl,hown,hb1⟩
 have HX:Hid (Rb w #[.int .i64 L,.slice da dn dc,.slice sa sn sc,.int .i64 beg,.int .i64 fin,.int .i64 front,.int .i64 back,.bool banded,.int .i64 lo,.int .i64 hi,.slice ta tn tc] w1 /\ IntA w1 vo (valsB defs).1.length (valsB defs).1):=⟨HB.out.next hb1,intA_own hown rfl (by unfold maxLen; omega)⟩
 clear hown hb1 HB
 have c0:w1.cell? ⟨w.heap.size,0,none⟩ = some (.int .i64 L):=blk HX.out.1.box rfl
 have c1:w1.cell? ⟨w.heap.size,1,none⟩ = some (.slice da dn dc):=blk HX.out.1.box rfl
 have c2:w1.cell? ⟨w.heap.size,2,none⟩ = some (.slice sa sn sc):=blk HX.out.1.box rfl
 have c3:w1.cell? ⟨w.heap.size,3,none⟩ = some (.int .i64 beg):=blk HX.out.1.box rfl
 have c4:w1.cell? ⟨w.heap.size,4,none⟩ = some (.int .i64 fin):=blk HX.out.1.box rfl
 have c5:w1.cell? ⟨w.heap.size,5,none⟩ = some (.int .i64 front):=blk HX.out.1.box rfl
 have c6:w1.cell? ⟨w.heap.size,6,none⟩ = some (.int .i64 back):=blk HX.out.1.box rfl
 have c7:w1.cell? ⟨w.heap.size,7,none⟩ = some (.bool banded):=blk HX.out.1.box rfl
 have c8:w1.cell? ⟨w.heap.size,8,none⟩ = some (.int .i64 lo):=blk HX.out.1.box rfl
 have c9:w1.cell? ⟨w.heap.size,9,none⟩ = some (.int .i64 hi):=blk HX.out.1.box rfl
 have c10:w1.cell? ⟨w.heap.size,10,none⟩ = some (.slice ta tn tc):=blk HX.out.1.box rfl
 generalize (valsB defs).2 = er at *
 by_cases hz:er = 0
 ·subst hz
  have n0:((0:Int) != 0) = false:=rfl
  rw [decide_eq_true rfl] at HN
  generalize (valsB defs).1 = vs at *
  go_wp2_with fail
  refine (HC1.out w1 HX.out.1).mono ?_
  rintro e w2 ⟨rfl,hb2⟩
  have HX2:Hid (Rb w #[.int .i64 L,.slice da dn dc,.slice sa sn sc,.int .i64 beg,.int .i64 fin,.int .i64 front,.int .i64 back,.bool banded,.int .i64 lo,.int .i64 hi,.slice ta tn tc] w2 /\ IntA w2 vo vs.length vs):=⟨HX.out.1.next hb2,HX.out.2.below hb2⟩
  clear hb2 HX c0 c1 c2 c3 c4 c5 c6 c7 c8 c9 c10
  cases S1 with
  | false=>
    go_wp2
    go_ret
    exact ⟨ret_bool (by rw [HN.out]; rfl),HX2.out.1.low⟩
  | true=>
    have c0:w2.cell? ⟨w.heap.size,0,none⟩ = some (.int .i64 L):=blk HX2.out.1.box rfl
    have c1:w2.cell? ⟨w.heap.size,1,none⟩ = some (.slice da dn dc):=blk HX2.out.1.box rfl
    have c2:w2.cell? ⟨w.heap.size,2,none⟩ = some (.slice sa sn sc):=blk HX2.out.1.box rfl
    have c3:w2.cell? ⟨w.heap.size,3,none⟩ = some (.int .i64 beg):=blk HX2.out.1.box rfl
    have c4:w2.cell? ⟨w.heap.size,4,none⟩ = some (.int .i64 fin):=blk HX2.out.1.box rfl
    have c5:w2.cell? ⟨w.heap.size,5,none⟩ = some (.int .i64 front):=blk HX2.out.1.box rfl
    have c6:w2.cell? ⟨w.heap.size,6,none⟩ = some (.int .i64 back):=blk HX2.out.1.box rfl
    have c7:w2.cell? ⟨w.heap.size,7,none⟩ = some (.bool banded):=blk HX2.out.1.box rfl
    have c8:w2.cell? ⟨w.heap.size,8,none⟩ = some (.int .i64 lo):=blk HX2.out.1.box rfl
    have c9:w2.cell? ⟨w.heap.size,9,none⟩ = some (.int .i64 hi):=blk HX2.out.1.box rfl
    have c10:w2.cell? ⟨w.heap.size,10,none⟩ = some (.slice ta tn tc):=blk HX2.out.1.box rfl
    go_wp2_with fail
    refine (HC2.out w2 vo vc HX2.out.2).mono ?_
    rintro e w3 ⟨rfl,hb3⟩
    have HX3:Hid (Rb w #[.int .i64 L,.slice da dn dc,.slice sa sn sc,.int .i64 beg,.int .i64 fin,.int .i64 front,.int .i64 back,.bool banded,.int .i64 lo,.int .i64 hi,.slice ta tn tc] w3):=HX2.out.1.next hb3
    clear hb3 HX2 c0 c1 c2 c3 c4 c5 c6 c7 c8 c9 c10
    cases S2 with
    | false=>
      go_wp2
      go_ret
      exact ⟨ret_bool (by rw [HN.out]; rfl),HX3.out.low⟩
    | true=>
      have c0:w3.cell? ⟨w.heap.size,0,none⟩ = some (.int .i64 L):=blk HX3.out.box rfl
      have c1:w3.cell? ⟨w.heap.size,1,none⟩ = some (.slice da dn dc):=blk HX3.out.box rfl
      have c2:w3.cell? ⟨w.heap.size,2,none⟩ = some (.slice sa sn sc):=blk HX3.out.box rfl
      have c3:w3.cell? ⟨w.heap.size,3,none⟩ = some (.int .i64 beg):=blk HX3.out.box rfl
      have c4:w3.cell? ⟨w.heap.size,4,none⟩ = some (.int .i64 fin):=blk HX3.out.box rfl
      have c5:w3.cell? ⟨w.heap.size,5,none⟩ = some (.int .i64 front):=blk HX3.out.box rfl
      have c6:w3.cell? ⟨w.heap.size,6,none⟩ = some (.int .i64 back):=blk HX3.out.box rfl
      have c7:w3.cell? ⟨w.heap.size,7,none⟩ = some (.bool banded):=blk HX3.out.box rfl
      have c8:w3.cell? ⟨w.heap.size,8,none⟩ = some (.int .i64 lo):=blk HX3.out.box rfl
      have c9:w3.cell? ⟨w.heap.size,9,none⟩ = some (.int .i64 hi):=blk HX3.out.box rfl
      have c10:w3.cell? ⟨w.heap.size,10,none⟩ = some (.slice ta tn tc):=blk HX3.out.box rfl
      go_wp2_with fail
      refine (HC3.out w3).mono ?_
      rintro e w4 ⟨rfl,hb4⟩
      have HX4:Hid (Rb w #[.int .i64 L,.slice da dn dc,.slice sa sn sc,.int .i64 beg,.int .i64 fin,.int .i64 front,.int .i64 back,.bool banded,.int .i64 lo,.int .i64 hi,.slice ta tn tc] w4):=HX3.out.next hb4
      clear hb4 HX3 c0 c1 c2 c3 c4 c5 c6 c7 c8 c9 c10
      cases S3 with
      | false=>
        go_wp2
        go_ret
        exact ⟨ret_bool (by rw [HN.out]; rfl),HX4.out.low⟩
      | true=>
        have c0:w4.cell? ⟨w.heap.size,0,none⟩ = some (.int .i64 L):=blk HX4.out.box rfl
        have c1:w4.cell? ⟨w.heap.size,1,none⟩ = some (.slice da dn dc):=blk HX4.out.box rfl
        have c2:w4.cell? ⟨w.heap.size,2,none⟩ = some (.slice sa sn sc):=blk HX4.out.box rfl
        have c3:w4.cell? ⟨w.heap.size,3,none⟩ = some (.int .i64 beg):=blk HX4.out.box rfl
        have c4:w4.cell? ⟨w.heap.size,4,none⟩ = some (.int .i64 fin):=blk HX4.out.box rfl
        have c5:w4.cell? ⟨w.heap.size,5,none⟩ = some (.int .i64 front):=blk HX4.out.box rfl
        have c6:w4.cell? ⟨w.heap.size,6,none⟩ = some (.int .i64 back):=blk HX4.out.box rfl
        have c7:w4.cell? ⟨w.heap.size,7,none⟩ = some (.bool banded):=blk HX4.out.box rfl
        have c8:w4.cell? ⟨w.heap.size,8,none⟩ = some (.int .i64 lo):=blk HX4.out.box rfl
        have c9:w4.cell? ⟨w.heap.size,9,none⟩ = some (.int .i64 hi):=blk HX4.out.box rfl
        have c10:w4.cell? ⟨w.heap.size,10,none⟩ = some (.slice ta tn tc):=blk HX4.out.box rfl
        go_wp2_with fail
        refine (HC4.out w4 HX4.out).mono ?_
        rintro e w5 ⟨rfl,hb5⟩
        have HX5:Hid (Below w.heap.size w w5):=(HX4.out.next hb5).low
        clear hb5 HX4 c0 c1 c2 c3 c4 c5 c6 c7 c8 c9 c10
        go_wp2
        go_ret
        exact ⟨ret_bool (by rw [HN.out]; rfl),HX5.out⟩
 ·have n0:(er != 0) = true:=by simpa using hz
  rw [decide_eq_false hz] at HN
  go_wp2
  go_ret
  exact ⟨ret_bool (by rw [HN.out]; rfl),HX.out.1.low⟩
end Go.Proofs.YtidmjjalpbbfkaaGreat
namespace Go.Proofs.YtidmjjalpbbfkaaGreat
open Go.RowKit Go.Deep Go.Maps
set_option maxRecDepth 20000
set_option maxHeartbeats 1000000
def edgeD (e:Int × Int) (behind states defs:Int):Bool:=decide (behind < e.1) && (decide (e.1 < states) && (decide (-1 <= e.2) && decide (e.2 < defs)))
theorem edgeD_eq (e:Int × Int) (behind states defs:Int) (hd:0 <= defs):edgeD e behind states defs = (inI e.1 (behind + 1) (states - 1) && (decide (e.2 = -1) || inI e.2 0 (defs - 1))):=by
 rw [Bool.eq_iff_iff]
 simp only [edgeD,inI,Bool.and_eq_true,Bool.or_eq_true,decide_eq_true_eq]
 omega
theorem edgeD_calls (s c behind states defs:Int) (w:World):Calls Tryz.prog 33 #[.agg #[.int .i64 s,.int .i64 c],.int .i64 behind,.int .i64 states,.int .i64 defs] w fun e w'=>e = .returned (.bool (edgeD (s,c) behind states defs)) /\ Below w.heap.size w w':=by
 have HB:Hid (Below w.heap.size w (w.alloc (.cells #[.int .i64 s,.int .i64 c] 54))):=(Below.refl _ _).alloc (Nat.le_refl _) _
 by_cases h1:behind < s
 ·have d1:decide (behind < s) = true:=by simpa using h1
  by_cases h2:s < states
  ·have d2:decide (s < states) = true:=by simpa using h2
   by_cases h3:-1 <= c
   ·have d3:decide (-1 <= c) = true:=by simpa using h3
    go_enter Tryz.func33,Tryz.ntmps33
    go_wp2
    go_ret
    exact ⟨ret_bool (by simp [edgeD,h1,h2,h3]),HB.out⟩
   ·have d3:decide (-1 <= c) = false:=by simpa using h3
    go_enter Tryz.func33,Tryz.ntmps33
    go_wp2
    go_ret
    exact ⟨ret_bool (by simp [edgeD]; omega),HB.out⟩
  ·have d2:decide (s < states) = false:=by simpa using h2
   go_enter Tryz.func33,Tryz.ntmps33
   go_wp2
   go_ret
   exact ⟨ret_bool (by simp [edgeD]; omega),HB.out⟩
 ·have d1:decide (behind < s) = false:=by simpa using h1
  go_enter Tryz.func33,Tryz.ntmps33
  go_wp2
  go_ret
  exact ⟨ret_bool (by simp [edgeD]; omega),HB.out⟩
theorem rightR_iff (x:Rc):rightR x = true ↔ ((valsB x.defs).2 = 0 /\ (2 <= x.letters /\ x.letters <= 20) /\ (x.subst.length:Int) = x.letters * x.letters /\ placesB x.defs.length x.subst = true /\ (1 <= x.beg /\ x.beg <= 3) /\ (1 <= x.fin /\ x.fin <= 3) /\ (0 <= x.front /\ x.front < x.defs.length) /\ (0 <= x.back /\ x.back < x.defs.length) /\ 0 <= vAt (valsB x.defs).1 x.front /\ 0 <= vAt (valsB x.defs).1 x.back /\ (x.lo <= x.hi /\ (x.banded = false -> x.lo = 0 /\ x.hi = 0)) /\ x.states.length <= 9 /\ x.states.all (stateB x.states.length x.defs.length) = true):=by
 unfold rightR substR endsR statesR
 simp only [Bool.and_eq_true,decide_eq_true_eq,inI_iff]
 constructor
 ·rintro ⟨h1,⟨h2,h3,h4⟩,⟨h5,h6,h7,h8,h9⟩,h10,h11,h12⟩
  have hl:=(valsB_len x.defs h1).1
  rw [hl] at h7
  simp only [placesB,List.all_cons,List.all_nil,Bool.and_true,Bool.and_eq_true,inI_iff] at h7
  refine ⟨h1,h2,h3,h4,h5,h6,by omega,by omega,h8,h9,?_,h11,h12⟩
  unfold bandR at h10
  cases hb:x.banded
  ·rw [hb] at h10
   simp at h10
   exact ⟨by omega,fun _=>h10⟩
  ·rw [hb] at h10
   simp at h10
   exact ⟨h10,fun e=>by cases e⟩
 ·rintro ⟨h1,h2,h3,h4,h5,h6,h7,h7b,h8,h9,h10,h11,h12⟩
  have hl:=(valsB_len x.defs h1).1
  refine ⟨h1,⟨h2,h3,h4⟩,⟨h5,h6,?_,h8,h9⟩,?_,h11,h12⟩
  ·rw [hl]
   simp only [placesB,List.all_cons,List.all_nil,Bool.and_true,Bool.and_eq_true,inI_iff]
   omega
  ·unfold bandR
   cases hb:x.banded
   ·have:=h10.2 hb
    simp [this]
   ·simp [h10.1]
structure JR (w:World) (cs:Array Value) (wo:World) (es:Array Value) (W:World):Prop where
 rb:Rb w cs W
 low:Below wo.heap.size wo W
 st:W.heap[wo.heap.size]? = some (.cells es 52 (0,0))
theorem JR.next {w:World} {cs:Array Value} {wo:World} {es:Array Value} {W W':World} (h:JR w cs wo es W) (hb:Below W.heap.size W W'):JR w cs wo es W':=
 ⟨h.rb.next hb,h.low.trans (hb.mono h.low.size),by rw [hb.block _ (lt_block h.st)]; exact h.st⟩
end Go.Proofs.YtidmjjalpbbfkaaGreat
namespace Go.Proofs.YtidmjjalpbbfkaaGreat
open Go.RowKit Go.Deep Go.Maps
set_option maxRecDepth 20000
set_option maxHeartbeats 2000000
theorem rb_0 (x:Rc) (da:Option Addr) (dn dc:Nat) (sa:Option Addr) (sn sc:Nat) (ta:Option Addr) (tn tc:Nat) (w:World) (h:RcAt w x da dn sa sn ta tn)  (bad:(valsB x.defs).2 ≠ 0) :
 Calls Tryz.prog 12 #[.agg (rcCells x da dn dc sa sn sc ta tn tc)] w fun e w'=>e = .returned (.bool false) /\ Below w.heap.size w w':=by
 have hdn:=h.defs.short
 have hsn:=h.subst.short
 have htn:=h.states.short
 have e1:=h.defs.length
 have HB:Hid (Rb w (rcCells x da dn dc sa sn sc ta tn tc) (w.alloc (.cells (rcCells x da dn dc sa sn sc ta tn tc) 30))):=Rb.start w _
 have HS:Hid (RcAt w x da dn sa sn ta tn):=h
 have HLn:Hid ((valsB x.defs).2 = 0 -> (valsB x.defs).1.length = dn):=fun h0=>by rw [(valsB_len x.defs h0).1,e1]
 have hfew:=valsB_few x.defs
 unfold maxLen at hdn hsn htn
 clear h e1
 obtain ⟨L,defs,subst,beg,fin,front,back,banded,lo,hi,states⟩:=x
 unfold rcCells at HB ⊢
 simp only at *
 go_enter Tryz.func12,Tryz.ntmps12
 go_wp2_with fail
 refine (refvalues_calls defs da dn dc _ (HS.out.defs.below HB.out.low)).mono ?_
 rintro e w1 ⟨vo,vc,rfl,hown,hb1⟩
 have HX:Hid (Rb w #[.int .i64 L,.slice da dn dc,.slice sa sn sc,.int .i64 beg,.int .i64 fin,.int .i64 front,.int .i64 back,.bool banded,.int .i64 lo,.int .i64 hi,.slice ta tn tc] w1 /\ IntA w1 vo (valsB defs).1.length (valsB defs).1):=⟨HB.out.next hb1,intA_own hown rfl (by unfold maxLen; omega)⟩
 clear hown hb1 HB
 have c0:w1.cell? ⟨w.heap.size,0,none⟩ = some (.int .i64 L):=blk HX.out.1.box rfl
 have c1:w1.cell? ⟨w.heap.size,1,none⟩ = some (.slice da dn dc):=blk HX.out.1.box rfl
 have c2:w1.cell? ⟨w.heap.size,2,none⟩ = some (.slice sa sn sc):=blk HX.out.1.box rfl
 have c3:w1.cell? ⟨w.heap.size,3,none⟩ = some (.int .i64 beg):=blk HX.out.1.box rfl
 have c4:w1.cell? ⟨w.heap.size,4,none⟩ = some (.int .i64 fin):=blk HX.out.1.box rfl
 have c5:w1.cell? ⟨w.heap.size,5,none⟩ = some (.int .i64 front):=blk HX.out.1.box rfl
 have c6:w1.cell? ⟨w.heap.size,6,none⟩ = some (.int .i64 back):=blk HX.out.1.box rfl
 have c7:w1.cell? ⟨w.heap.size,7,none⟩ = some (.bool banded):=blk HX.out.1.box rfl
 have c8:w1.cell? ⟨w.heap.size,8,none⟩ = some (.int .i64 lo):=blk HX.out.1.box rfl
 have c9:w1.cell? ⟨w.heap.size,9,none⟩ = some (.int .i64 hi):=blk HX.out.1.box rfl
 have c10:w1.cell? ⟨w.heap.size,10,none⟩ = some (.slice ta tn tc):=blk HX.out.1.box rfl
 generalize hge:(valsB defs).2 = er at *
 generalize hgv:(valsB defs).1 = vs at *
 clear hge hgv
 have k_b:(er != 0) = true:=by simpa using bad
 go_wp2
 go_ret
 exact ⟨rfl,HX.out.1.low⟩
theorem rb_1 (x:Rc) (da:Option Addr) (dn dc:Nat) (sa:Option Addr) (sn sc:Nat) (ta:Option Addr) (tn tc:Nat) (w:World) (h:RcAt w x da dn sa sn ta tn) (f0:(valsB x.defs).2 = 0) (bad:x.letters < 2) :
 Calls Tryz.prog 12 #[.agg (rcCells x da dn dc sa sn sc ta tn tc)] w fun e w'=>e = .returned (.bool false) /\ Below w.heap.size w w':=by
 have hdn:=h.defs.short
 have hsn:=h.subst.short
 have htn:=h.states.short
 have e1:=h.defs.length
 have HB:Hid (Rb w (rcCells x da dn dc sa sn sc ta tn tc) (w.alloc (.cells (rcCells x da dn dc sa sn sc ta tn tc) 30))):=Rb.start w _
 have HS:Hid (RcAt w x da dn sa sn ta tn):=h
 have HLn:Hid ((valsB x.defs).2 = 0 -> (valsB x.defs).1.length = dn):=fun h0=>by rw [(valsB_len x.defs h0).1,e1]
 have hfew:=valsB_few x.defs
 unfold maxLen at hdn hsn htn
 clear h e1
 obtain ⟨L,defs,subst,beg,fin,front,back,banded,lo,hi,states⟩:=x
 unfold rcCells at HB ⊢
 simp only at *
 go_enter Tryz.func12,Tryz.ntmps12
 go_wp2_with fail
 refine (refvalues_calls defs da dn dc _ (HS.out.defs.below HB.out.low)).mono ?_
 rintro e w1 ⟨vo,vc,rfl,hown,hb1⟩
 have HX:Hid (Rb w #[.int .i64 L,.slice da dn dc,.slice sa sn sc,.int .i64 beg,.int .i64 fin,.int .i64 front,.int .i64 back,.bool banded,.int .i64 lo,.int .i64 hi,.slice ta tn tc] w1 /\ IntA w1 vo (valsB defs).1.length (valsB defs).1):=⟨HB.out.next hb1,intA_own hown rfl (by unfold maxLen; omega)⟩
 clear hown hb1 HB
 have c0:w1.cell? ⟨w.heap.size,0,none⟩ = some (.int .i64 L):=blk HX.out.1.box rfl
 have c1:w1.cell? ⟨w.heap.size,1,none⟩ = some (.slice da dn dc):=blk HX.out.1.box rfl
 have c2:w1.cell? ⟨w.heap.size,2,none⟩ = some (.slice sa sn sc):=blk HX.out.1.box rfl
 have c3:w1.cell? ⟨w.heap.size,3,none⟩ = some (.int .i64 beg):=blk HX.out.1.box rfl
 have c4:w1.cell? ⟨w.heap.size,4,none⟩ = some (.int .i64 fin):=blk HX.out.1.box rfl
 have c5:w1.cell? ⟨w.heap.size,5,none⟩ = some (.int .i64 front):=blk HX.out.1.box rfl
 have c6:w1.cell? ⟨w.heap.size,6,none⟩ = some (.int .i64 back):=blk HX.out.1.box rfl
 have c7:w1.cell? ⟨w.heap.size,7,none⟩ = some (.bool banded):=blk HX.out.1.box rfl
 have c8:w1.cell? ⟨w.heap.size,8,none⟩ = some (.int .i64 lo):=blk HX.out.1.box rfl
 have c9:w1.cell? ⟨w.heap.size,9,none⟩ = some (.int .i64 hi):=blk HX.out.1.box rfl
 have c10:w1.cell? ⟨w.heap.size,10,none⟩ = some (.slice ta tn tc):=blk HX.out.1.box rfl
 generalize hge:(valsB defs).2 = er at *
 generalize hgv:(valsB defs).1 = vs at *
 clear hge hgv
 have HVL:Hid (vs.length = dn):=HLn.out f0
 have k_f0:(er != 0) = false:=by simp [f0]
 clear f0 HLn
 have k_b:decide (L < 2) = true:=by simpa using bad
 go_wp2
 go_ret
 exact ⟨rfl,HX.out.1.low⟩
theorem rb_2 (x:Rc) (da:Option Addr) (dn dc:Nat) (sa:Option Addr) (sn sc:Nat) (ta:Option Addr) (tn tc:Nat) (w:World) (h:RcAt w x da dn sa sn ta tn) (f0:(valsB x.defs).2 = 0) (f1:¬ x.letters < 2) (bad:20 < x.letters) :
 Calls Tryz.prog 12 #[.agg (rcCells x da dn dc sa sn sc ta tn tc)] w fun e w'=>e = .returned (.bool false) /\ Below w.heap.size w w':=by
 have hdn:=h.defs.short
 have hsn:=h.subst.short
 have htn:=h.states.short
 have e1:=h.defs.length
 have HB:Hid (Rb w (rcCells x da dn dc sa sn sc ta tn tc) (w.alloc (.cells (rcCells x da dn dc sa sn sc ta tn tc) 30))):=Rb.start w _
 have HS:Hid (RcAt w x da dn sa sn ta tn):=h
 have HLn:Hid ((valsB x.defs).2 = 0 -> (valsB x.defs).1.length = dn):=fun h0=>by rw [(valsB_len x.defs h0).1,e1]
 have hfew:=valsB_few x.defs
 unfold maxLen at hdn hsn htn
 clear h e1
 obtain ⟨L,defs,subst,beg,fin,front,back,banded,lo,hi,states⟩:=x
 unfold rcCells at HB ⊢
 simp only at *
 go_enter Tryz.func12,Tryz.ntmps12
 go_wp2_with fail
 refine (refvalues_calls defs da dn dc _ (HS.out.defs.below HB.out.low)).mono ?_
 rintro e w1 ⟨vo,vc,rfl,hown,hb1⟩
 have HX:Hid (Rb w #[.int .i64 L,.slice da dn dc,.slice sa sn sc,.int .i64 beg,.int .i64 fin,.int .i64 front,.int .i64 back,.bool banded,.int .i64 lo,.int .i64 hi,.slice ta tn tc] w1 /\ IntA w1 vo (valsB defs).1.length (valsB defs).1):=⟨HB.out.next hb1,intA_own hown rfl (by unfold maxLen; omega)⟩
 clear hown hb1 HB
 have c0:w1.cell? ⟨w.heap.size,0,none⟩ = some (.int .i64 L):=blk HX.out.1.box rfl
 have c1:w1.cell? ⟨w.heap.size,1,none⟩ = some (.slice da dn dc):=blk HX.out.1.box rfl
 have c2:w1.cell? ⟨w.heap.size,2,none⟩ = some (.slice sa sn sc):=blk HX.out.1.box rfl
 have c3:w1.cell? ⟨w.heap.size,3,none⟩ = some (.int .i64 beg):=blk HX.out.1.box rfl
 have c4:w1.cell? ⟨w.heap.size,4,none⟩ = some (.int .i64 fin):=blk HX.out.1.box rfl
 have c5:w1.cell? ⟨w.heap.size,5,none⟩ = some (.int .i64 front):=blk HX.out.1.box rfl
 have c6:w1.cell? ⟨w.heap.size,6,none⟩ = some (.int .i64 back):=blk HX.out.1.box rfl
 have c7:w1.cell? ⟨w.heap.size,7,none⟩ = some (.bool banded):=blk HX.out.1.box rfl
 have c8:w1.cell? ⟨w.heap.size,8,none⟩ = some (.int .i64 lo):=blk HX.out.1.box rfl
 have c9:w1.cell? ⟨w.heap.size,9,none⟩ = some (.int .i64 hi):=blk HX.out.1.box rfl
 have c10:w1.cell? ⟨w.heap.size,10,none⟩ = some (.slice ta tn tc):=blk HX.out.1.box rfl
 generalize hge:(valsB defs).2 = er at *
 generalize hgv:(valsB defs).1 = vs at *
 clear hge hgv
 have HVL:Hid (vs.length = dn):=HLn.out f0
 have k_f0:(er != 0) = false:=by simp [f0]
 clear f0 HLn
 have k_f1:decide (L < 2) = false:=by simpa using f1
 have k_b:decide (20 < L) = true:=by simpa using bad
 go_wp2
 go_ret
 exact ⟨rfl,HX.out.1.low⟩
theorem rb_3 (x:Rc) (da:Option Addr) (dn dc:Nat) (sa:Option Addr) (sn sc:Nat) (ta:Option Addr) (tn tc:Nat) (w:World) (h:RcAt w x da dn sa sn ta tn) (f0:(valsB x.defs).2 = 0) (f1:¬ x.letters < 2) (f2:¬ 20 < x.letters) (bad:(sn:Int) ≠ x.letters * x.letters) :
 Calls Tryz.prog 12 #[.agg (rcCells x da dn dc sa sn sc ta tn tc)] w fun e w'=>e = .returned (.bool false) /\ Below w.heap.size w w':=by
 have hdn:=h.defs.short
 have hsn:=h.subst.short
 have htn:=h.states.short
 have e1:=h.defs.length
 have HB:Hid (Rb w (rcCells x da dn dc sa sn sc ta tn tc) (w.alloc (.cells (rcCells x da dn dc sa sn sc ta tn tc) 30))):=Rb.start w _
 have HS:Hid (RcAt w x da dn sa sn ta tn):=h
 have HLn:Hid ((valsB x.defs).2 = 0 -> (valsB x.defs).1.length = dn):=fun h0=>by rw [(valsB_len x.defs h0).1,e1]
 have hfew:=valsB_few x.defs
 unfold maxLen at hdn hsn htn
 clear h e1
 obtain ⟨L,defs,subst,beg,fin,front,back,banded,lo,hi,states⟩:=x
 unfold rcCells at HB ⊢
 simp only at *
 go_enter Tryz.func12,Tryz.ntmps12
 go_wp2_with fail
 refine (refvalues_calls defs da dn dc _ (HS.out.defs.below HB.out.low)).mono ?_
 rintro e w1 ⟨vo,vc,rfl,hown,hb1⟩
 have HX:Hid (Rb w #[.int .i64 L,.slice da dn dc,.slice sa sn sc,.int .i64 beg,.int .i64 fin,.int .i64 front,.int .i64 back,.bool banded,.int .i64 lo,.int .i64 hi,.slice ta tn tc] w1 /\ IntA w1 vo (valsB defs).1.length (valsB defs).1):=⟨HB.out.next hb1,intA_own hown rfl (by unfold maxLen; omega)⟩
 clear hown hb1 HB
 have c0:w1.cell? ⟨w.heap.size,0,none⟩ = some (.int .i64 L):=blk HX.out.1.box rfl
 have c1:w1.cell? ⟨w.heap.size,1,none⟩ = some (.slice da dn dc):=blk HX.out.1.box rfl
 have c2:w1.cell? ⟨w.heap.size,2,none⟩ = some (.slice sa sn sc):=blk HX.out.1.box rfl
 have c3:w1.cell? ⟨w.heap.size,3,none⟩ = some (.int .i64 beg):=blk HX.out.1.box rfl
 have c4:w1.cell? ⟨w.heap.size,4,none⟩ = some (.int .i64 fin):=blk HX.out.1.box rfl
 have c5:w1.cell? ⟨w.heap.size,5,none⟩ = some (.int .i64 front):=blk HX.out.1.box rfl
 have c6:w1.cell? ⟨w.heap.size,6,none⟩ = some (.int .i64 back):=blk HX.out.1.box rfl
 have c7:w1.cell? ⟨w.heap.size,7,none⟩ = some (.bool banded):=blk HX.out.1.box rfl
 have c8:w1.cell? ⟨w.heap.size,8,none⟩ = some (.int .i64 lo):=blk HX.out.1.box rfl
 have c9:w1.cell? ⟨w.heap.size,9,none⟩ = some (.int .i64 hi):=blk HX.out.1.box rfl
 have c10:w1.cell? ⟨w.heap.size,10,none⟩ = some (.slice ta tn tc):=blk HX.out.1.box rfl
 generalize hge:(valsB defs).2 = er at *
 generalize hgv:(valsB defs).1 = vs at *
 clear hge hgv
 have HVL:Hid (vs.length = dn):=HLn.out f0
 have k_f0:(er != 0) = false:=by simp [f0]
 clear f0 HLn
 have k_f1:decide (L < 2) = false:=by simpa using f1
 have k_f2:decide (20 < L) = false:=by simpa using f2
 obtain ⟨nn,hnL⟩:=Int.eq_ofNat_of_zero_le (show 0 <= L by omega)
 have hm1:0 <= L * L /\ L * L <= 400:=by
  rw [hnL]
  have hn20:nn <= 20:=by omega
  have hsq:nn * nn <= 400:=by have:=Nat.mul_le_mul hn20 hn20; omega
  have hsqi:(nn:Int) * (nn:Int) = ((nn * nn:Nat):Int):=by simp
  rw [hsqi]; omega
 obtain ⟨hm1,hm2⟩:=hm1
 clear hnL
 have k_b:((sn:Int) != L * L) = true:=by simpa using bad
 clear bad
 go_wp2
 go_ret
 exact ⟨rfl,HX.out.1.low⟩
theorem rb_4 (x:Rc) (da:Option Addr) (dn dc:Nat) (sa:Option Addr) (sn sc:Nat) (ta:Option Addr) (tn tc:Nat) (w:World) (h:RcAt w x da dn sa sn ta tn) (f0:(valsB x.defs).2 = 0) (f1:¬ x.letters < 2) (f2:¬ 20 < x.letters) (f3:(sn:Int) = x.letters * x.letters) (bad:x.beg < 1) :
 Calls Tryz.prog 12 #[.agg (rcCells x da dn dc sa sn sc ta tn tc)] w fun e w'=>e = .returned (.bool false) /\ Below w.heap.size w w':=by
 have hdn:=h.defs.short
 have hsn:=h.subst.short
 have htn:=h.states.short
 have e1:=h.defs.length
 have HB:Hid (Rb w (rcCells x da dn dc sa sn sc ta tn tc) (w.alloc (.cells (rcCells x da dn dc sa sn sc ta tn tc) 30))):=Rb.start w _
 have HS:Hid (RcAt w x da dn sa sn ta tn):=h
 have HLn:Hid ((valsB x.defs).2 = 0 -> (valsB x.defs).1.length = dn):=fun h0=>by rw [(valsB_len x.defs h0).1,e1]
 have hfew:=valsB_few x.defs
 unfold maxLen at hdn hsn htn
 clear h e1
 obtain ⟨L,defs,subst,beg,fin,front,back,banded,lo,hi,states⟩:=x
 unfold rcCells at HB ⊢
 simp only at *
 go_enter Tryz.func12,Tryz.ntmps12
 go_wp2_with fail
 refine (refvalues_calls defs da dn dc _ (HS.out.defs.below HB.out.low)).mono ?_
 rintro e w1 ⟨vo,vc,rfl,hown,hb1⟩
 have HX:Hid (Rb w #[.int .i64 L,.slice da dn dc,.slice sa sn sc,.int .i64 beg,.int .i64 fin,.int .i64 front,.int .i64 back,.bool banded,.int .i64 lo,.int .i64 hi,.slice ta tn tc] w1 /\ IntA w1 vo (valsB defs).1.length (valsB defs).1):=⟨HB.out.next hb1,intA_own hown rfl (by unfold maxLen; omega)⟩
 clear hown hb1 HB
 have c0:w1.cell? ⟨w.heap.size,0,none⟩ = some (.int .i64 L):=blk HX.out.1.box rfl
 have c1:w1.cell? ⟨w.heap.size,1,none⟩ = some (.slice da dn dc):=blk HX.out.1.box rfl
 have c2:w1.cell? ⟨w.heap.size,2,none⟩ = some (.slice sa sn sc):=blk HX.out.1.box rfl
 have c3:w1.cell? ⟨w.heap.size,3,none⟩ = some (.int .i64 beg):=blk HX.out.1.box rfl
 have c4:w1.cell? ⟨w.heap.size,4,none⟩ = some (.int .i64 fin):=blk HX.out.1.box rfl
 have c5:w1.cell? ⟨w.heap.size,5,none⟩ = some (.int .i64 front):=blk HX.out.1.box rfl
 have c6:w1.cell? ⟨w.heap.size,6,none⟩ = some (.int .i64 back):=blk HX.out.1.box rfl
 have c7:w1.cell? ⟨w.heap.size,7,none⟩ = some (.bool banded):=blk HX.out.1.box rfl
 have c8:w1.cell? ⟨w.heap.size,8,none⟩ = some (.int .i64 lo):=blk HX.out.1.box rfl
 have c9:w1.cell? ⟨w.heap.size,9,none⟩ = some (.int .i64 hi):=blk HX.out.1.box rfl
 have c10:w1.cell? ⟨w.heap.size,10,none⟩ = some (.slice ta tn tc):=blk HX.out.1.box rfl
 generalize hge:(valsB defs).2 = er at *
 generalize hgv:(valsB defs).1 = vs at *
 clear hge hgv
 have HVL:Hid (vs.length = dn):=HLn.out f0
 have k_f0:(er != 0) = false:=by simp [f0]
 clear f0 HLn
 have k_f1:decide (L < 2) = false:=by simpa using f1
 have k_f2:decide (20 < L) = false:=by simpa using f2
 obtain ⟨nn,hnL⟩:=Int.eq_ofNat_of_zero_le (show 0 <= L by omega)
 have hm1:0 <= L * L /\ L * L <= 400:=by
  rw [hnL]
  have hn20:nn <= 20:=by omega
  have hsq:nn * nn <= 400:=by have:=Nat.mul_le_mul hn20 hn20; omega
  have hsqi:(nn:Int) * (nn:Int) = ((nn * nn:Nat):Int):=by simp
  rw [hsqi]; omega
 obtain ⟨hm1,hm2⟩:=hm1
 clear hnL
 have k_f3:((sn:Int) != L * L) = false:=by simpa using f3
 clear f3
 have k_b:decide (beg < 1) = true:=by simpa using bad
 go_wp2
 go_ret
 exact ⟨rfl,HX.out.1.low⟩
theorem rb_5 (x:Rc) (da:Option Addr) (dn dc:Nat) (sa:Option Addr) (sn sc:Nat) (ta:Option Addr) (tn tc:Nat) (w:World) (h:RcAt w x da dn sa sn ta tn) (f0:(valsB x.defs).2 = 0) (f1:¬ x.letters < 2) (f2:¬ 20 < x.letters) (f3:(sn:Int) = x.letters * x.letters) (f4:¬ x.beg < 1) (bad:3 < x.beg) :
 Calls Tryz.prog 12 #[.agg (rcCells x da dn dc sa sn sc ta tn tc)] w fun e w'=>e = .returned (.bool false) /\ Below w.heap.size w w':=by
 have hdn:=h.defs.short
 have hsn:=h.subst.short
 have htn:=h.states.short
 have e1:=h.defs.length
 have HB:Hid (Rb w (rcCells x da dn dc sa sn sc ta tn tc) (w.alloc (.cells (rcCells x da dn dc sa sn sc ta tn tc) 30))):=Rb.start w _
 have HS:Hid (RcAt w x da dn sa sn ta tn):=h
 have HLn:Hid ((valsB x.defs).2 = 0 -> (valsB x.defs).1.length = dn):=fun h0=>by rw [(valsB_len x.defs h0).1,e1]
 have hfew:=valsB_few x.defs
 unfold maxLen at hdn hsn htn
 clear h e1
 obtain ⟨L,defs,subst,beg,fin,front,back,banded,lo,hi,states⟩:=x
 unfold rcCells at HB ⊢
 simp only at *
 go_enter Tryz.func12,Tryz.ntmps12
 go_wp2_with fail
 refine (refvalues_calls defs da dn dc _ (HS.out.defs.below HB.out.low)).mono ?_
 rintro e w1 ⟨vo,vc,rfl,hown,hb1⟩
 have HX:Hid (Rb w #[.int .i64 L,.slice da dn dc,.slice sa sn sc,.int .i64 beg,.int .i64 fin,.int .i64 front,.int .i64 back,.bool banded,.int .i64 lo,.int .i64 hi,.slice ta tn tc] w1 /\ IntA w1 vo (valsB defs).1.length (valsB defs).1):=⟨HB.out.next hb1,intA_own hown rfl (by unfold maxLen; omega)⟩
 clear hown hb1 HB
 have c0:w1.cell? ⟨w.heap.size,0,none⟩ = some (.int .i64 L):=blk HX.out.1.box rfl
 have c1:w1.cell? ⟨w.heap.size,1,none⟩ = some (.slice da dn dc):=blk HX.out.1.box rfl
 have c2:w1.cell? ⟨w.heap.size,2,none⟩ = some (.slice sa sn sc):=blk HX.out.1.box rfl
 have c3:w1.cell? ⟨w.heap.size,3,none⟩ = some (.int .i64 beg):=blk HX.out.1.box rfl
 have c4:w1.cell? ⟨w.heap.size,4,none⟩ = some (.int .i64 fin):=blk HX.out.1.box rfl
 have c5:w1.cell? ⟨w.heap.size,5,none⟩ = some (.int .i64 front):=blk HX.out.1.box rfl
 have c6:w1.cell? ⟨w.heap.size,6,none⟩ = some (.int .i64 back):=blk HX.out.1.box rfl
 have c7:w1.cell? ⟨w.heap.size,7,none⟩ = some (.bool banded):=blk HX.out.1.box rfl
 have c8:w1.cell? ⟨w.heap.size,8,none⟩ = some (.int .i64 lo):=blk HX.out.1.box rfl
 have c9:w1.cell? ⟨w.heap.size,9,none⟩ = some (.int .i64 hi):=blk HX.out.1.box rfl
 have c10:w1.cell? ⟨w.heap.size,10,none⟩ = some (.slice ta tn tc):=blk HX.out.1.box rfl
 generalize hge:(valsB defs).2 = er at *
 generalize hgv:(valsB defs).1 = vs at *
 clear hge hgv
 have HVL:Hid (vs.length = dn):=HLn.out f0
 have k_f0:(er != 0) = false:=by simp [f0]
 clear f0 HLn
 have k_f1:decide (L < 2) = false:=by simpa using f1
 have k_f2:decide (20 < L) = false:=by simpa using f2
 obtain ⟨nn,hnL⟩:=Int.eq_ofNat_of_zero_le (show 0 <= L by omega)
 have hm1:0 <= L * L /\ L * L <= 400:=by
  rw [hnL]
  have hn20:nn <= 20:=by omega
  have hsq:nn * nn <= 400:=by have:=Nat.mul_le_mul hn20 hn20; omega
  have hsqi:(nn:Int) * (nn:Int) = ((nn * nn:Nat):Int):=by simp
  rw [hsqi]; omega
 obtain ⟨hm1,hm2⟩:=hm1
 clear hnL
 have k_f3:((sn:Int) != L * L) = false:=by simpa using f3
 clear f3
 have k_f4:decide (beg < 1) = false:=by simpa using f4
 have k_b:decide (3 < beg) = true:=by simpa using bad
 go_wp2
 go_ret
 exact ⟨rfl,HX.out.1.low⟩
end Go.Proofs.YtidmjjalpbbfkaaGreat
