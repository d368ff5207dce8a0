/-
  Places of definitions: arePlaces. The document's small ones: ints, defs, times, Made. The document's small ones: times, Made, mayDef.
-/
import Derived.Test.YtidmjjalpbbfkaaGreatG18
namespace Go.Proofs.YtidmjjalpbbfkaaGreat
open Go.RowKit Go.Deep Go.Maps
set_option maxRecDepth 20000
set_option maxHeartbeats 1000000
def placeB (vs:List Int) (least p:Int):Bool:=decide (0 <= p /\ p < vs.length /\ least <= vAt vs p /\ vAt vs p <= 72057594037927936)
def fromP (vs:List Int) (least:Int) (ps:List Int):Bool:=ps.all (placeB vs least)
theorem fromP_bad {vs:List Int} {least:Int} {ps:List Int} (k:Nat) (p:Int) (hk:ps[k]? = some p) (h:placeB vs least p = false):fromP vs least ps = false:=by
 unfold fromP
 rw [List.all_eq_false]
 exact ⟨p,List.mem_of_getElem? hk,by simp [h]⟩
theorem fromP_all {vs:List Int} {least:Int} {ps:List Int} (h:∀ (j:Nat) (p:Int),ps[j]? = some p -> placeB vs least p = true):fromP vs least ps = true:=by
 unfold fromP
 rw [List.all_eq_true]
 intro p hp
 obtain ⟨j,hj⟩:=List.getElem?_of_mem hp
 exact h j p hj
/-- Numbers that can be read in a world. -/
structure IntA (w:World) (ao:Option Addr) (n:Nat) (l:List Int):Prop where
 length:l.length = n
 short:n <= maxLen
 isI:IsI w ao l
theorem IntA.below {w w':World} {ao:Option Addr} {n:Nat} {l:List Int} (h:IntA w ao n l) (hb:Below w.heap.size w w'):IntA w' ao n l:=⟨h.length,h.short,h.isI.below hb⟩
theorem intA_new {W:World} {l:List Int} {g:Nat} (hg:g = W.heap.size) (hs:l.length <= maxLen):IntA (W.alloc (.cells (itRow l).toArray 3)) (some ⟨g,0,none⟩) l.length l:=by
 subst hg
 refine ⟨rfl,hs,fun i v hi=>⟨_,0,rfl,?_⟩⟩
 rw [Nat.zero_add]
 exact blk (heap_alloc_new W _) (by simp [itRow,hi])
theorem intA_own {w:World} {base:Nat} {vo:Option Addr} {n vc:Nat} {vs:List Int} (h:w.ownsRow base 3 1 (.slice vo n vc) n (itRow vs)) (hl:vs.length = n) (hs:n <= maxLen):IntA w vo n vs:=⟨hl,hs,own_isI' h hl⟩
theorem from_calls (vs:List Int) (vo:Option Addr) (vn vc g:Nat) (least:Int) (ps:List Int) (po:Option Addr) (pn pc:Nat) (w:World) (hv:IntA w vo vn vs) (hp:IntA w po pn ps) (hg:w.cell? ⟨g,0,none⟩ = some (.slice vo vn vc)) :
 Calls Tryz.prog 113 #[.int .i64 least,.slice po pn pc,.pointer (some ⟨g,0,none⟩)] w fun e w'=>e = .returned (.bool (fromP vs least ps)) /\ w = w':=by
 have hpn:=hp.short
 have hvn:=hv.short
 unfold maxLen at hpn hvn
 have HV:Hid (IntA w vo vn vs):=hv
 have HP:Hid (IntA w po pn ps):=hp
 clear hv hp
 go_enter Tryz.func113,Tryz.ntmps113
 go_wp2
 go_loop [7,10] (fun _ i=>∃ k:Nat,k <= pn /\ i = .int .i64 k /\ (∀ (j:Nat) (p:Int),j < k -> ps[j]? = some p -> placeB vs least p = true)) (fun _ i=>pn - (intOf i).toNat)
 case atStart=>exact ⟨0,Nat.zero_le _,rfl,fun j p hj=>by omega⟩
 case round=>
  obtain ⟨k,hk,rfl,hall⟩:=hrel
  have HA:Hid (∀ (j:Nat) (p:Int),j < k -> ps[j]? = some p -> placeB vs least p = true):=hall
  clear hall
  by_cases hlt:k < pn
  ·obtain ⟨p,hpk⟩:∃ p,ps[k]? = some p:=⟨ps[k]'(by rw [HP.out.length]; exact hlt),List.getElem?_eq_getElem _⟩
   obtain ⟨g1,o1,rfl,hc1⟩:=HP.out.isI k p hpk
   have HK:Hid (ps[k]? = some p):=hpk
   clear hpk
   by_cases hp0:p < 0
   ·have HE:Hid (fromP vs least ps = false):=fromP_bad k p HK.out (by simp [placeB]; omega)
    go_wp2
    go_ret
    rw [HE.out]; exact ⟨rfl,rfl⟩
   by_cases hp1:(vn:Int) <= p
   ·have HE:Hid (fromP vs least ps = false):=fromP_bad k p HK.out (by have:=HV.out.length; simp [placeB]; omega)
    go_wp2
    go_ret
    rw [HE.out]; exact ⟨rfl,rfl⟩
   obtain ⟨q,rfl⟩:=Int.eq_ofNat_of_zero_le (show 0 <= p by omega)
   have hq:q < vn:=by omega
   have hvq:=vAt_get (vs:=vs) (i:=q) (by rw [HV.out.length]; exact hq)
   obtain ⟨g2,o2,rfl,hc2⟩:=HV.out.isI q _ hvq
   have HPl:Hid (placeB vs least (q:Int) = decide (least <= vAt vs q /\ vAt vs q <= 72057594037927936)):=by
    have:=HV.out.length
    show placeB _ _ _ = _
    unfold placeB
    congr 1
    apply propext
    constructor
    ·intro h; exact h.2.2
    ·intro h; exact ⟨by omega,by omega,h⟩
   clear hvq hp0 hp1
   generalize vAt vs (q:Int) = v at *
   by_cases h1:v < least
   ·have HE:Hid (fromP vs least ps = false):=fromP_bad k _ HK.out (by rw [HPl.out]; simp; omega)
    go_wp2
    go_ret
    rw [HE.out]; exact ⟨rfl,rfl⟩
   by_cases h2:72057594037927936 < v
   ·have HE:Hid (fromP vs least ps = false):=fromP_bad k _ HK.out (by rw [HPl.out]; simp; omega)
    go_wp2
    go_ret
    rw [HE.out]; exact ⟨rfl,rfl⟩
   go_wp2
   go_round
   case rel=>
    refine ⟨k + 1,by omega,by go_num,?_⟩
    intro j p' hj hjp
    by_cases e:j = k
    ·subst e; rw [HK.out] at hjp; cases hjp; rw [HPl.out]; simp; omega
    ·exact HA.out j p' (by omega) hjp
   case measure=>simp [intOf]; omega
  ·have HE:Hid (fromP vs least ps = true):=fromP_all (fun j p hj=>HA.out j p (by have:=(List.getElem?_eq_some_iff.1 hj).1; rw [HP.out.length] at this; omega) hj)
   go_wp2
   go_ret
   rw [HE.out]; exact ⟨rfl,rfl⟩
end Go.Proofs.YtidmjjalpbbfkaaGreat
namespace Go.Proofs.YtidmjjalpbbfkaaGreat
open Go.RowKit Go.Deep Go.Maps
theorem bdiv {a b:Int} (ha:0 < a):b > 144115188075855872 / a ↔ 144115188075855872 < a * b:=by
 constructor
 ·intro h
  have:=Int.lt_mul_of_ediv_lt ha h
  rwa [Int.mul_comm] at this
 ·intro h
  exact Int.ediv_lt_of_lt_mul ha (by rw [Int.mul_comm]; exact h)
theorem times_in (a b:Int):inB maxV (a * b) = decide ((a.natAbs:Int) * b.natAbs <= 144115188075855872):=by
 have h:=abs_mul_le (a:=a) (b:=b) _ rfl
 rw [Bool.eq_iff_iff,inB_iff,decide_eq_true_iff]
 have e:((a.natAbs:Int) * b.natAbs) = ((a.natAbs * b.natAbs:Nat):Int):=by simp
 rw [e]
 by_cases s:(a < 0) = (b < 0)
 ·rw [h.1 s]; unfold maxV; omega
 ·rw [h.2 s]; unfold maxV; omega
def madeR (op a b:Int):Int:=if op = 2 then -a else if op = 3 then a + b else if op = 4 then a - b else if op = 5 then a * b else if op = 6 then min a b else if op = 7 then max a b else 0
end Go.Proofs.YtidmjjalpbbfkaaGreat
namespace Go.Proofs.YtidmjjalpbbfkaaGreat
open Go.RowKit Go.Deep Go.Maps
set_option maxRecDepth 20000
set_option maxHeartbeats 400000
theorem wrap_v {v:Int} (h1:-144115188075855872 <= v) (h2:v <= 144115188075855872):IntKind.i64.wrap v = v:=by
 simp [IntKind.wrap,IntKind.bits,IntKind.signed]
 omega
theorem times_big {a b:Int} (h:inB maxV (a * b) = false):timesB a b = (0,false):=by unfold timesB; rw [h]; rfl
theorem times_ok {a b:Int} (h:inB maxV (a * b) = true):timesB a b = (a * b,true):=by unfold timesB; rw [h]; rfl
theorem tquot (x y:Int) (hx:0 < x) {q:Int} (h:Int.tdiv 144115188075855872 x = q):0 <= q /\ q <= 144115188075855872 /\ (q < y -> 144115188075855872 < x * y) /\ (y <= q -> x * y <= 144115188075855872):=by
 rw [Int.tdiv_eq_ediv_of_nonneg (by decide)] at h
 subst h
 refine ⟨Int.ediv_nonneg (by decide) (by omega),Int.ediv_le_self _ (by decide),fun h=>(bdiv hx).1 h,fun h=>?_⟩
 have:=(bdiv (b:=y) hx).2
 by_cases c:144115188075855872 < x * y
 ·have:=this c; omega
 ·omega
theorem reftimes_calls (a b:Int) (w:World) (ha1:-144115188075855872 <= a) (ha2:a <= 144115188075855872) (hb1:-144115188075855872 <= b) (hb2:b <= 144115188075855872) :
 Calls Tryz.prog 79 #[.int .i64 a,.int .i64 b,.int .i64 144115188075855872] w fun e w'=>e = .returned (.tuple #[.int .i64 (timesB a b).1,.bool (timesB a b).2]) /\ w' = w:=by
 by_cases hz:a = 0
 ·subst hz
  have HT:Hid (timesB 0 b = (0,true)):=by show timesB 0 b = _; rw [times_ok (by rw [Int.zero_mul]; decide),Int.zero_mul]
  have h0:((0:Int) == 0) = true:=rfl
  have hw:IntKind.i64.wrap (0 * b) = 0:=by rw [Int.zero_mul]; rfl
  rw [HT.out]
  by_cases sb:b < 0
  ·have db:decide (b < 0) = true:=by simpa using sb
   go_enter Tryz.func79,Tryz.ntmps79
   go_wp2
   go_ret2
   exact ⟨rfl,rfl⟩
  ·have db:decide (b < 0) = false:=by simpa using sb
   go_enter Tryz.func79,Tryz.ntmps79
   go_wp2
   go_ret2
   exact ⟨rfl,rfl⟩
 by_cases sa:a < 0
 ·have da:decide (a < 0) = true:=by simpa using sa
  by_cases sb:b < 0
  ·have db:decide (b < 0) = true:=by simpa using sb
   obtain ⟨q,hq⟩:∃ q,Int.tdiv 144115188075855872 (-a) = q:=⟨_,rfl⟩
   have hk:=tquot (-a) (-b) (by omega) hq
   have hne:((-a) == (0:Int)) = false:=by simp; omega
   by_cases hbig:q < (-b)
   ·have hbd:decide (q < (-b)) = true:=by simpa using hbig
    have HT:Hid (timesB a b = (0,false)):=times_big (by rw [times_in]; simp only [decide_eq_false_iff_not]; rw [show (a.natAbs:Int) = (-a) by omega,show (b.natAbs:Int) = (-b) by omega]; have:=hk.2.2.1 hbig; omega)
    have hq1:=hk.1
    have hq2:=hk.2.1
    clear hk
    rw [HT.out]
    go_enter Tryz.func79,Tryz.ntmps79
    go_wp2
    go_ret2
    exact ⟨rfl,rfl⟩
   ·have hbd:decide (q < (-b)) = false:=by simpa using hbig
    have hin:inB maxV (a * b) = true:=by rw [times_in]; simp only [decide_eq_true_eq]; rw [show (a.natAbs:Int) = (-a) by omega,show (b.natAbs:Int) = (-b) by omega]; exact hk.2.2.2 (by omega)
    have HT:Hid (timesB a b = (a * b,true)):=times_ok hin
    have hw:IntKind.i64.wrap (a * b) = a * b:=by have:=(inB_iff _ _).1 hin; unfold maxV at this; exact wrap_v this.1 this.2
    have hq1:=hk.1
    have hq2:=hk.2.1
    clear hk hin
    rw [HT.out]
    go_enter Tryz.func79,Tryz.ntmps79
    go_wp2
    go_ret2
    exact ⟨rfl,rfl⟩
  ·have db:decide (b < 0) = false:=by simpa using sb
   obtain ⟨q,hq⟩:∃ q,Int.tdiv 144115188075855872 (-a) = q:=⟨_,rfl⟩
   have hk:=tquot (-a) b (by omega) hq
   have hne:((-a) == (0:Int)) = false:=by simp; omega
   by_cases hbig:q < b
   ·have hbd:decide (q < b) = true:=by simpa using hbig
    have HT:Hid (timesB a b = (0,false)):=times_big (by rw [times_in]; simp only [decide_eq_false_iff_not]; rw [show (a.natAbs:Int) = (-a) by omega,show (b.natAbs:Int) = b by omega]; have:=hk.2.2.1 hbig; omega)
    have hq1:=hk.1
    have hq2:=hk.2.1
    clear hk
    rw [HT.out]
    go_enter Tryz.func79,Tryz.ntmps79
    go_wp2
    go_ret2
    exact ⟨rfl,rfl⟩
   ·have hbd:decide (q < b) = false:=by simpa using hbig
    have hin:inB maxV (a * b) = true:=by rw [times_in]; simp only [decide_eq_true_eq]; rw [show (a.natAbs:Int) = (-a) by omega,show (b.natAbs:Int) = b by omega]; exact hk.2.2.2 (by omega)
    have HT:Hid (timesB a b = (a * b,true)):=times_ok hin
    have hw:IntKind.i64.wrap (a * b) = a * b:=by have:=(inB_iff _ _).1 hin; unfold maxV at this; exact wrap_v this.1 this.2
    have hq1:=hk.1
    have hq2:=hk.2.1
    clear hk hin
    rw [HT.out]
    go_enter Tryz.func79,Tryz.ntmps79
    go_wp2
    go_ret2
    exact ⟨rfl,rfl⟩
 ·have da:decide (a < 0) = false:=by simpa using sa
  by_cases sb:b < 0
  ·have db:decide (b < 0) = true:=by simpa using sb
   obtain ⟨q,hq⟩:∃ q,Int.tdiv 144115188075855872 a = q:=⟨_,rfl⟩
   have hk:=tquot a (-b) (by omega) hq
   have hne:(a == (0:Int)) = false:=by simp; omega
   by_cases hbig:q < (-b)
   ·have hbd:decide (q < (-b)) = true:=by simpa using hbig
    have HT:Hid (timesB a b = (0,false)):=times_big (by rw [times_in]; simp only [decide_eq_false_iff_not]; rw [show (a.natAbs:Int) = a by omega,show (b.natAbs:Int) = (-b) by omega]; have:=hk.2.2.1 hbig; omega)
    have hq1:=hk.1
    have hq2:=hk.2.1
    clear hk
    rw [HT.out]
    go_enter Tryz.func79,Tryz.ntmps79
    go_wp2
    go_ret2
    exact ⟨rfl,rfl⟩
   ·have hbd:decide (q < (-b)) = false:=by simpa using hbig
    have hin:inB maxV (a * b) = true:=by rw [times_in]; simp only [decide_eq_true_eq]; rw [show (a.natAbs:Int) = a by omega,show (b.natAbs:Int) = (-b) by omega]; exact hk.2.2.2 (by omega)
    have HT:Hid (timesB a b = (a * b,true)):=times_ok hin
    have hw:IntKind.i64.wrap (a * b) = a * b:=by have:=(inB_iff _ _).1 hin; unfold maxV at this; exact wrap_v this.1 this.2
    have hq1:=hk.1
    have hq2:=hk.2.1
    clear hk hin
    rw [HT.out]
    go_enter Tryz.func79,Tryz.ntmps79
    go_wp2
    go_ret2
    exact ⟨rfl,rfl⟩
  ·have db:decide (b < 0) = false:=by simpa using sb
   obtain ⟨q,hq⟩:∃ q,Int.tdiv 144115188075855872 a = q:=⟨_,rfl⟩
   have hk:=tquot a b (by omega) hq
   have hne:(a == (0:Int)) = false:=by simp; omega
   by_cases hbig:q < b
   ·have hbd:decide (q < b) = true:=by simpa using hbig
    have HT:Hid (timesB a b = (0,false)):=times_big (by rw [times_in]; simp only [decide_eq_false_iff_not]; rw [show (a.natAbs:Int) = a by omega,show (b.natAbs:Int) = b by omega]; have:=hk.2.2.1 hbig; omega)
    have hq1:=hk.1
    have hq2:=hk.2.1
    clear hk
    rw [HT.out]
    go_enter Tryz.func79,Tryz.ntmps79
    go_wp2
    go_ret2
    exact ⟨rfl,rfl⟩
   ·have hbd:decide (q < b) = false:=by simpa using hbig
    have hin:inB maxV (a * b) = true:=by rw [times_in]; simp only [decide_eq_true_eq]; rw [show (a.natAbs:Int) = a by omega,show (b.natAbs:Int) = b by omega]; exact hk.2.2.2 (by omega)
    have HT:Hid (timesB a b = (a * b,true)):=times_ok hin
    have hw:IntKind.i64.wrap (a * b) = a * b:=by have:=(inB_iff _ _).1 hin; unfold maxV at this; exact wrap_v this.1 this.2
    have hq1:=hk.1
    have hq2:=hk.2.1
    clear hk hin
    rw [HT.out]
    go_enter Tryz.func79,Tryz.ntmps79
    go_wp2
    go_ret2
    exact ⟨rfl,rfl⟩
def madeV (op a b:Int):Int:=if op = 5 then (timesB a b).1 else madeR op a b
theorem madeV_in {op a b:Int} (h:inB maxV (madeR op a b) = true):madeV op a b = madeR op a b:=by
 unfold madeV
 split
 ·next e=>
  subst e
  have e2:madeR 5 a b = a * b:=rfl
  rw [e2] at h ⊢
  rw [times_ok h]
 ·rfl
theorem made_calls (op a b:Int) (w:World) (h2:2 <= op) (h7:op <= 7) (ha1:-144115188075855872 <= a) (ha2:a <= 144115188075855872) (hb1:-144115188075855872 <= b) (hb2:b <= 144115188075855872) :
 Calls Tryz.prog 47 #[.int .i64 op,.int .i64 a,.int .i64 b,.int .i64 144115188075855872] w fun e w'=>e = .returned (.tuple #[.int .i64 (madeV op a b),.bool (inB maxV (madeR op a b))]) /\ w' = w:=by
 have hop:op = 2 \/ op = 3 \/ op = 4 \/ op = 5 \/ op = 6 \/ op = 7:=by omega
 clear h2 h7
 rcases hop with rfl | rfl | rfl | rfl | rfl | rfl
 ·have HR:Hid (madeR 2 a b = (-a)):=rfl
  have HR2:Hid (madeV 2 a b = (-a)):=rfl
  rw [HR.out,HR2.out]
  by_cases k1:-144115188075855872 <= (-a)
  ·have d1:decide (-144115188075855872 <= (-a)) = true:=by simpa using k1
   go_enter Tryz.func47,Tryz.ntmps47
   go_wp2
   go_ret2
   exact ⟨congrArg (fun t=>Ending.returned (.tuple #[.int .i64 (-a),.bool t])) (by simp [inB,maxV]; omega),rfl⟩
  ·have d1:decide (-144115188075855872 <= (-a)) = false:=by simpa using k1
   go_enter Tryz.func47,Tryz.ntmps47
   go_wp2
   go_ret2
   exact ⟨congrArg (fun t=>Ending.returned (.tuple #[.int .i64 (-a),.bool t])) (by simp [inB,maxV]; omega),rfl⟩
 ·have HR:Hid (madeR 3 a b = (a + b)):=rfl
  have HR2:Hid (madeV 3 a b = (a + b)):=rfl
  rw [HR.out,HR2.out]
  by_cases k1:-144115188075855872 <= (a + b)
  ·have d1:decide (-144115188075855872 <= (a + b)) = true:=by simpa using k1
   go_enter Tryz.func47,Tryz.ntmps47
   go_wp2
   go_ret2
   exact ⟨congrArg (fun t=>Ending.returned (.tuple #[.int .i64 (a + b),.bool t])) (by simp [inB,maxV]; omega),rfl⟩
  ·have d1:decide (-144115188075855872 <= (a + b)) = false:=by simpa using k1
   go_enter Tryz.func47,Tryz.ntmps47
   go_wp2
   go_ret2
   exact ⟨congrArg (fun t=>Ending.returned (.tuple #[.int .i64 (a + b),.bool t])) (by simp [inB,maxV]; omega),rfl⟩
 ·have HR:Hid (madeR 4 a b = (a - b)):=rfl
  have HR2:Hid (madeV 4 a b = (a - b)):=rfl
  rw [HR.out,HR2.out]
  by_cases k1:-144115188075855872 <= (a - b)
  ·have d1:decide (-144115188075855872 <= (a - b)) = true:=by simpa using k1
   go_enter Tryz.func47,Tryz.ntmps47
   go_wp2
   go_ret2
   exact ⟨congrArg (fun t=>Ending.returned (.tuple #[.int .i64 (a - b),.bool t])) (by simp [inB,maxV]; omega),rfl⟩
  ·have d1:decide (-144115188075855872 <= (a - b)) = false:=by simpa using k1
   go_enter Tryz.func47,Tryz.ntmps47
   go_wp2
   go_ret2
   exact ⟨congrArg (fun t=>Ending.returned (.tuple #[.int .i64 (a - b),.bool t])) (by simp [inB,maxV]; omega),rfl⟩
 ·have HR:Hid (madeR 5 a b = a * b):=rfl
  rw [HR.out]
  have hC:=reftimes_calls a b w ha1 ha2 hb1 hb2
  cases hin:inB maxV (a * b)
  ·rw [times_big hin] at hC
   have HC:Hid (Calls Tryz.prog 79 #[.int .i64 a,.int .i64 b,.int .i64 144115188075855872] w fun e w'=>e = .returned (.tuple #[.int .i64 0,.bool false]) /\ w' = w):=hC
   have HI:Hid (inB maxV (a * b) = false):=hin
   have HV:Hid (madeV 5 a b = 0):=by show madeV 5 a b = 0; unfold madeV; rw [if_pos rfl,times_big hin]
   clear hC hin
   go_enter Tryz.func47,Tryz.ntmps47
   go_wp2_with (go_at_call 79; refine (HC.out).mono ?_; rintro e w' ⟨rfl,rfl⟩)
   go_ret2
   exact ⟨by rw [HV.out]; rfl,rfl⟩
  ·rw [times_ok hin] at hC
   have HC:Hid (Calls Tryz.prog 79 #[.int .i64 a,.int .i64 b,.int .i64 144115188075855872] w fun e w'=>e = .returned (.tuple #[.int .i64 (a * b),.bool true]) /\ w' = w):=hC
   have HI:Hid (inB maxV (a * b) = true):=hin
   have HV:Hid (madeV 5 a b = a * b):=by show madeV 5 a b = _; unfold madeV; rw [if_pos rfl,times_ok hin]
   have hb:=(inB_iff _ _).1 hin
   unfold maxV at hb
   obtain ⟨k1,k2⟩:=hb
   have d1:decide (-144115188075855872 <= a * b) = true:=by simpa using k1
   have d2:decide (a * b <= 144115188075855872) = true:=by simpa using k2
   clear hC hin
   generalize a * b = r at *
   go_enter Tryz.func47,Tryz.ntmps47
   go_wp2_with (go_at_call 79; refine (HC.out).mono ?_; rintro e w' ⟨rfl,rfl⟩)
   go_ret2
   exact ⟨by rw [HV.out]; rfl,rfl⟩
 ·have HR:Hid (madeR 6 a b = (min a b)):=rfl
  have HR2:Hid (madeV 6 a b = (min a b)):=rfl
  rw [HR.out,HR2.out]
  by_cases k1:-144115188075855872 <= (min a b)
  ·have d1:decide (-144115188075855872 <= (min a b)) = true:=by simpa using k1
   go_enter Tryz.func47,Tryz.ntmps47
   go_wp2
   go_ret2
   exact ⟨congrArg (fun t=>Ending.returned (.tuple #[.int .i64 (min a b),.bool t])) (by simp [inB,maxV]; omega),rfl⟩
  ·have d1:decide (-144115188075855872 <= (min a b)) = false:=by simpa using k1
   go_enter Tryz.func47,Tryz.ntmps47
   go_wp2
   go_ret2
   exact ⟨congrArg (fun t=>Ending.returned (.tuple #[.int .i64 (min a b),.bool t])) (by simp [inB,maxV]; omega),rfl⟩
 ·have HR:Hid (madeR 7 a b = (max a b)):=rfl
  have HR2:Hid (madeV 7 a b = (max a b)):=rfl
  rw [HR.out,HR2.out]
  by_cases k1:-144115188075855872 <= (max a b)
  ·have d1:decide (-144115188075855872 <= (max a b)) = true:=by simpa using k1
   go_enter Tryz.func47,Tryz.ntmps47
   go_wp2
   go_ret2
   exact ⟨congrArg (fun t=>Ending.returned (.tuple #[.int .i64 (max a b),.bool t])) (by simp [inB,maxV]; omega),rfl⟩
  ·have d1:decide (-144115188075855872 <= (max a b)) = false:=by simpa using k1
   go_enter Tryz.func47,Tryz.ntmps47
   go_wp2
   go_ret2
   exact ⟨congrArg (fun t=>Ending.returned (.tuple #[.int .i64 (max a b),.bool t])) (by simp [inB,maxV]; omega),rfl⟩
end Go.Proofs.YtidmjjalpbbfkaaGreat
