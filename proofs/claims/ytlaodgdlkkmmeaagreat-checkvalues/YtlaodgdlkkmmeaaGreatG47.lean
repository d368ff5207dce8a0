/-
  The document's small ones: ints, defs, times, Made. The document's small ones: times, Made, mayDef. The document's small ones: mayDef.
-/
import Derived.Test.YtlaodgdlkkmmeaaGreatG45
namespace Go.Proofs.YtlaodgdlkkmmeaaGreat
open Go.RowKit Go.Deep Go.Maps
open Go.Value renaming int->I
open Go.IntKind renaming i64->J
set_option maxRecDepth 20000
set_option maxHeartbeats 400000
theorem neq_at {α:Type} [DecidableEq α] {xs ys:List α} {k:Nat} {a b:α} (ha:xs[k]? = some a) (hb:ys[k]? = some b) (h:a ≠ b):decide (xs = ys) = false:=by
 simp
 rintro rfl
 rw [ha] at hb
 cases hb
 exact h rfl
theorem eq_all {α:Type} [DecidableEq α] {xs ys:List α} {n:Nat} (h1:xs.length = n) (h2:ys.length = n) (h:∀ j:Nat,j < n -> xs[j]? = ys[j]?):decide (xs = ys) = true:=by
 simp
 refine List.ext_getElem? (fun j=>?_)
 by_cases hj:j < n
 ·exact h j hj
 ·rw [List.getElem?_eq_none (by omega),List.getElem?_eq_none (by omega)]
theorem neq_len {α:Type} [DecidableEq α] {xs ys:List α} (h:xs.length ≠ ys.length):decide (xs = ys) = false:=by
 simp
 rintro rfl
 exact h rfl
theorem ints_calls (xs ys:List Int) (ao:Option Addr) (an ac:Nat) (bo:Option Addr) (bn bc:Nat) (w:World) (ha:IntA w ao an xs) (hb:IntA w bo bn ys) :
 Calls Tryz.prog 18 #[.slice ao an ac,.slice bo bn bc] w fun e w'=>e = .returned (.bool (decide (xs = ys))) /\ Below w.heap.size w w':=by
 have han:=ha.short
 have hbn:=hb.short
 unfold maxLen at han hbn
 have HA:Hid (IntA w ao an xs):=ha
 have HB:Hid (IntA w bo bn ys):=hb
 clear ha hb
 by_cases hl:an = bn
 ·subst hl
  have hd:((an:Int) == (an:Int)) = true:=by simp
  go_enter Tryz.func18,Tryz.ntmps18
  go_wp2
  go_loopw [5] (fun i wr=>∃ k:Nat,k <= an /\ i = I J k /\ (∀ j:Nat,j < k -> xs[j]? = ys[j]?) /\ Below w.heap.size w wr) (fun i _=>an - (intOf i).toNat)
  case atStart=>exact ⟨0,Nat.zero_le _,rfl,fun j hj=>by omega,Below.refl _ _⟩
  case round=>
   obtain ⟨k,hk,rfl,hall,hbl⟩:=hrel
   have HL:Hid ((∀ j:Nat,j < k -> xs[j]? = ys[j]?) /\ Below w.heap.size w wr):=⟨hall,hbl⟩
   clear hall hbl
   by_cases hlt:k < an
   ·obtain ⟨p,hp⟩:∃ p,xs[k]? = some p:=⟨xs[k]'(by rw [HA.out.length]; exact hlt),List.getElem?_eq_getElem _⟩
    obtain ⟨q,hq⟩:∃ q,ys[k]? = some q:=⟨ys[k]'(by rw [HB.out.length]; exact hlt),List.getElem?_eq_getElem _⟩
    obtain ⟨g1,o1,rfl,hc1⟩:=HA.out.isI k p hp
    obtain ⟨g2,o2,rfl,hc2⟩:=HB.out.isI k q hq
    have HK:Hid (xs[k]? = some p /\ ys[k]? = some q):=⟨hp,hq⟩
    rw [<- HL.out.2.cell (World.block_lt_of_cell? w _ hc1)] at hc1
    rw [<- HL.out.2.cell (World.block_lt_of_cell? w _ hc2)] at hc2
    have hd1:wr.drew.cell? ⟨g1,o1 + k,none⟩ = some (I J p):=hc1
    have hd2:wr.drew.cell? ⟨g2,o2 + k,none⟩ = some (I J q):=hc2
    have HD:Hid (Below w.heap.size w wr.drew):=HL.out.2.drew
    clear hp hq
    go_wp2_with fail
    go_region_held3 (fun W=>W.cell? ⟨g1,o1 + k,none⟩ = some (I J p) /\ W.cell? ⟨g2,o2 + k,none⟩ = some (I J q)) (first | with_reducible assumption | exact ⟨hc1,hc2⟩ | exact ⟨hd1,hd2⟩) (fail)
    rename_i hh
    clear hh hc1 hc2 hd1 hd2
    by_cases hpq:p = q
    ·subst hpq
     have he:(p == p) = true:=by simp
     go_wp2
     go_roundw
     case rel=>
      refine ⟨k + 1,by omega,by go_num,?_,HD.out⟩
      intro j hj
      by_cases e:j = k
      ·subst e; rw [HK.out.1,HK.out.2]
      ·exact HL.out.1 j (by omega)
     case measure=>simp [intOf]; omega
    ·have he:(p == q) = false:=by simpa using hpq
     have HE:Hid (decide (xs = ys) = false):=neq_at HK.out.1 HK.out.2 hpq
     go_wp2
     go_ret
     rw [HE.out]; exact ⟨rfl,HD.out⟩
   ·have HE:Hid (decide (xs = ys) = true):=eq_all HA.out.length HB.out.length (fun j hj=>HL.out.1 j (by omega))
    go_wp2
    go_ret
    rw [HE.out]; exact ⟨rfl,HL.out.2⟩
 ·have hd:((an:Int) == (bn:Int)) = false:=by simp; omega
  have HE:Hid (decide (xs = ys) = false):=neq_len (by rw [HA.out.length,HB.out.length]; exact hl)
  go_enter Tryz.func18,Tryz.ntmps18
  go_wp2
  go_ret
  rw [HE.out]; exact ⟨rfl,Below.refl _ _⟩
theorem bdiv {a b:Int} (ha:0 < a):b > 144115188075855872 / a ↔ 144115188075855872 < a * b:=by
 constructor
 ·intro h
  have:=Int.lt_mul_of_ediv_lt ha h
  rwa [Int.mul_comm] at this
 ·intro h
  exact Int.ediv_lt_of_lt_mul ha (by rw [Int.mul_comm]; exact h)
theorem times_in (a b:Int):inB maxV (a * b) = decide ((a.natAbs:Int) * b.natAbs <= 144115188075855872):=by
 have h:=abs_mul_le (a:=a) (b:=b) _ rfl
 rw [Bool.eq_iff_iff,inB_iff,decide_eq_true_iff]
 have e:((a.natAbs:Int) * b.natAbs) = ((a.natAbs * b.natAbs:Nat):Int):=by simp
 rw [e]
 by_cases s:(a < 0) = (b < 0)
 ·rw [h.1 s]; unfold maxV; omega
 ·rw [h.2 s]; unfold maxV; omega
def madeR (op a b:Int):Int:=if op = 2 then -a else if op = 3 then a + b else if op = 4 then a - b else if op = 5 then a * b else if op = 6 then min a b else if op = 7 then max a b else 0
open Go.Ending renaming returned->Ω
set_option maxRecDepth 20000
set_option maxHeartbeats 400000
theorem wrap_v {v:Int} (h1:-144115188075855872 <= v) (h2:v <= 144115188075855872):IntKind.i64.wrap v = v:=by
 simp [IntKind.wrap,IntKind.bits,IntKind.signed]
 omega
theorem times_big {a b:Int} (h:inB maxV (a * b) = false):timesB a b = (0,false):=by unfold timesB; rw [h]; rfl
theorem times_ok {a b:Int} (h:inB maxV (a * b) = true):timesB a b = (a * b,true):=by unfold timesB; rw [h]; rfl
theorem tquot (x y:Int) (hx:0 < x) {q:Int} (h:Int.tdiv 144115188075855872 x = q):0 <= q /\ q <= 144115188075855872 /\ (q < y -> 144115188075855872 < x * y) /\ (y <= q -> x * y <= 144115188075855872):=by
 rw [Int.tdiv_eq_ediv_of_nonneg (by decide)] at h
 subst h
 refine ⟨Int.ediv_nonneg (by decide) (by omega),Int.ediv_le_self _ (by decide),fun h=>(bdiv hx).1 h,fun h=>?_⟩
 have:=(bdiv (b:=y) hx).2
 by_cases c:144115188075855872 < x * y
 ·have:=this c; omega
 ·omega
theorem reftimes_calls (a b:Int) (w:World) (ha1:-144115188075855872 <= a) (ha2:a <= 144115188075855872) (hb1:-144115188075855872 <= b) (hb2:b <= 144115188075855872) :
 Calls Tryz.prog 81 #[I J a,I J b,I J 144115188075855872] w fun e w'=>e = Ω (.tuple #[I J (timesB a b).1,.bool (timesB a b).2]) /\ w' = w:=by
 by_cases hz:a = 0
 ·subst hz
  have HT:Hid (timesB 0 b = (0,true)):=by show timesB 0 b = _; rw [times_ok (by rw [Int.zero_mul]; decide),Int.zero_mul]
  have h0:((0:Int) == 0) = true:=rfl
  have hw:IntKind.i64.wrap (0 * b) = 0:=by rw [Int.zero_mul]; rfl
  rw [HT.out]
  by_cases sb:b < 0
  ·have db:decide (b < 0) = true:=by simpa using sb
   go_enter Tryz.func81,Tryz.ntmps81
   go_wp2
   go_ret2
   exact ⟨rfl,rfl⟩
  ·have db:decide (b < 0) = false:=by simpa using sb
   go_enter Tryz.func81,Tryz.ntmps81
   go_wp2
   go_ret2
   exact ⟨rfl,rfl⟩
 by_cases sa:a < 0
 ·have da:decide (a < 0) = true:=by simpa using sa
  by_cases sb:b < 0
  ·have db:decide (b < 0) = true:=by simpa using sb
   obtain ⟨q,hq⟩:∃ q,Int.tdiv 144115188075855872 (-a) = q:=⟨_,rfl⟩
   have hk:=tquot (-a) (-b) (by omega) hq
   have hne:((-a) == (0:Int)) = false:=by simp; omega
   by_cases hbig:q < (-b)
   ·have hbd:decide (q < (-b)) = true:=by simpa using hbig
    have HT:Hid (timesB a b = (0,false)):=times_big (by rw [times_in]; simp only [decide_eq_false_iff_not]; rw [show (a.natAbs:Int) = (-a) by omega,show (b.natAbs:Int) = (-b) by omega]; have:=hk.2.2.1 hbig; omega)
    have hq1:=hk.1
    have hq2:=hk.2.1
    clear hk
    rw [HT.out]
    go_enter Tryz.func81,Tryz.ntmps81
    go_wp2
    go_ret2
    exact ⟨rfl,rfl⟩
   ·have hbd:decide (q < (-b)) = false:=by simpa using hbig
    have hin:inB maxV (a * b) = true:=by rw [times_in]; simp only [decide_eq_true_eq]; rw [show (a.natAbs:Int) = (-a) by omega,show (b.natAbs:Int) = (-b) by omega]; exact hk.2.2.2 (by omega)
    have HT:Hid (timesB a b = (a * b,true)):=times_ok hin
    have hw:IntKind.i64.wrap (a * b) = a * b:=by have:=(inB_iff _ _).1 hin; unfold maxV at this; exact wrap_v this.1 this.2
    have hq1:=hk.1
    have hq2:=hk.2.1
    clear hk hin
    rw [HT.out]
    go_enter Tryz.func81,Tryz.ntmps81
    go_wp2
    go_ret2
    exact ⟨rfl,rfl⟩
  ·have db:decide (b < 0) = false:=by simpa using sb
   obtain ⟨q,hq⟩:∃ q,Int.tdiv 144115188075855872 (-a) = q:=⟨_,rfl⟩
   have hk:=tquot (-a) b (by omega) hq
   have hne:((-a) == (0:Int)) = false:=by simp; omega
   by_cases hbig:q < b
   ·have hbd:decide (q < b) = true:=by simpa using hbig
    have HT:Hid (timesB a b = (0,false)):=times_big (by rw [times_in]; simp only [decide_eq_false_iff_not]; rw [show (a.natAbs:Int) = (-a) by omega,show (b.natAbs:Int) = b by omega]; have:=hk.2.2.1 hbig; omega)
    have hq1:=hk.1
    have hq2:=hk.2.1
    clear hk
    rw [HT.out]
    go_enter Tryz.func81,Tryz.ntmps81
    go_wp2
    go_ret2
    exact ⟨rfl,rfl⟩
   ·have hbd:decide (q < b) = false:=by simpa using hbig
    have hin:inB maxV (a * b) = true:=by rw [times_in]; simp only [decide_eq_true_eq]; rw [show (a.natAbs:Int) = (-a) by omega,show (b.natAbs:Int) = b by omega]; exact hk.2.2.2 (by omega)
    have HT:Hid (timesB a b = (a * b,true)):=times_ok hin
    have hw:IntKind.i64.wrap (a * b) = a * b:=by have:=(inB_iff _ _).1 hin; unfold maxV at this; exact wrap_v this.1 this.2
    have hq1:=hk.1
    have hq2:=hk.2.1
    clear hk hin
    rw [HT.out]
    go_enter Tryz.func81,Tryz.ntmps81
    go_wp2
    go_ret2
    exact ⟨rfl,rfl⟩
 ·have da:decide (a < 0) = false:=by simpa using sa
  by_cases sb:b < 0
  ·have db:decide (b < 0) = true:=by simpa using sb
   obtain ⟨q,hq⟩:∃ q,Int.tdiv 144115188075855872 a = q:=⟨_,rfl⟩
   have hk:=tquot a (-b) (by omega) hq
   have hne:(a == (0:Int)) = false:=by simp; omega
   by_cases hbig:q < (-b)
   ·have hbd:decide (q < (-b)) = true:=by simpa using hbig
    have HT:Hid (timesB a b = (0,false)):=times_big (by rw [times_in]; simp only [decide_eq_false_iff_not]; rw [show (a.natAbs:Int) = a by omega,show (b.natAbs:Int) = (-b) by omega]; have:=hk.2.2.1 hbig; omega)
    have hq1:=hk.1
    have hq2:=hk.2.1
    clear hk
    rw [HT.out]
    go_enter Tryz.func81,Tryz.ntmps81
    go_wp2
    go_ret2
    exact ⟨rfl,rfl⟩
   ·have hbd:decide (q < (-b)) = false:=by simpa using hbig
    have hin:inB maxV (a * b) = true:=by rw [times_in]; simp only [decide_eq_true_eq]; rw [show (a.natAbs:Int) = a by omega,show (b.natAbs:Int) = (-b) by omega]; exact hk.2.2.2 (by omega)
    have HT:Hid (timesB a b = (a * b,true)):=times_ok hin
    have hw:IntKind.i64.wrap (a * b) = a * b:=by have:=(inB_iff _ _).1 hin; unfold maxV at this; exact wrap_v this.1 this.2
    have hq1:=hk.1
    have hq2:=hk.2.1
    clear hk hin
    rw [HT.out]
    go_enter Tryz.func81,Tryz.ntmps81
    go_wp2
    go_ret2
    exact ⟨rfl,rfl⟩
  ·have db:decide (b < 0) = false:=by simpa using sb
   obtain ⟨q,hq⟩:∃ q,Int.tdiv 144115188075855872 a = q:=⟨_,rfl⟩
   have hk:=tquot a b (by omega) hq
   have hne:(a == (0:Int)) = false:=by simp; omega
   by_cases hbig:q < b
   ·have hbd:decide (q < b) = true:=by simpa using hbig
    have HT:Hid (timesB a b = (0,false)):=times_big (by rw [times_in]; simp only [decide_eq_false_iff_not]; rw [show (a.natAbs:Int) = a by omega,show (b.natAbs:Int) = b by omega]; have:=hk.2.2.1 hbig; omega)
    have hq1:=hk.1
    have hq2:=hk.2.1
    clear hk
    rw [HT.out]
    go_enter Tryz.func81,Tryz.ntmps81
    go_wp2
    go_ret2
    exact ⟨rfl,rfl⟩
   ·have hbd:decide (q < b) = false:=by simpa using hbig
    have hin:inB maxV (a * b) = true:=by rw [times_in]; simp only [decide_eq_true_eq]; rw [show (a.natAbs:Int) = a by omega,show (b.natAbs:Int) = b by omega]; exact hk.2.2.2 (by omega)
    have HT:Hid (timesB a b = (a * b,true)):=times_ok hin
    have hw:IntKind.i64.wrap (a * b) = a * b:=by have:=(inB_iff _ _).1 hin; unfold maxV at this; exact wrap_v this.1 this.2
    have hq1:=hk.1
    have hq2:=hk.2.1
    clear hk hin
    rw [HT.out]
    go_enter Tryz.func81,Tryz.ntmps81
    go_wp2
    go_ret2
    exact ⟨rfl,rfl⟩
def madeV (op a b:Int):Int:=if op = 5 then (timesB a b).1 else madeR op a b
theorem madeV_in {op a b:Int} (h:inB maxV (madeR op a b) = true):madeV op a b = madeR op a b:=by
 unfold madeV
 split
 ·next e=>
  subst e
  have e2:madeR 5 a b = a * b:=rfl
  rw [e2] at h ⊢
  rw [times_ok h]
 ·rfl
theorem made_calls (op a b:Int) (w:World) (h2:2 <= op) (h7:op <= 7) (ha1:-144115188075855872 <= a) (ha2:a <= 144115188075855872) (hb1:-144115188075855872 <= b) (hb2:b <= 144115188075855872) :
 Calls Tryz.prog 43 #[I J op,I J a,I J b,I J 144115188075855872] w fun e w'=>e = Ω (.tuple #[I J (madeV op a b),.bool (inB maxV (madeR op a b))]) /\ w' = w:=by
 have hop:op = 2 \/ op = 3 \/ op = 4 \/ op = 5 \/ op = 6 \/ op = 7:=by omega
 clear h2 h7
 rcases hop with rfl | rfl | rfl | rfl | rfl | rfl
 ·have HR:Hid (madeR 2 a b = (-a)):=rfl
  have HR2:Hid (madeV 2 a b = (-a)):=rfl
  rw [HR.out,HR2.out]
  by_cases k1:-144115188075855872 <= (-a)
  ·have d1:decide (-144115188075855872 <= (-a)) = true:=by simpa using k1
   go_enter Tryz.func43,Tryz.ntmps43
   go_wp2
   go_ret2
   exact ⟨congrArg (fun t=>Ending.returned (.tuple #[I J (-a),.bool t])) (by simp [inB,maxV]; omega),rfl⟩
  ·have d1:decide (-144115188075855872 <= (-a)) = false:=by simpa using k1
   go_enter Tryz.func43,Tryz.ntmps43
   go_wp2
   go_ret2
   exact ⟨congrArg (fun t=>Ending.returned (.tuple #[I J (-a),.bool t])) (by simp [inB,maxV]; omega),rfl⟩
 ·have HR:Hid (madeR 3 a b = (a + b)):=rfl
  have HR2:Hid (madeV 3 a b = (a + b)):=rfl
  rw [HR.out,HR2.out]
  by_cases k1:-144115188075855872 <= (a + b)
  ·have d1:decide (-144115188075855872 <= (a + b)) = true:=by simpa using k1
   go_enter Tryz.func43,Tryz.ntmps43
   go_wp2
   go_ret2
   exact ⟨congrArg (fun t=>Ending.returned (.tuple #[I J (a + b),.bool t])) (by simp [inB,maxV]; omega),rfl⟩
  ·have d1:decide (-144115188075855872 <= (a + b)) = false:=by simpa using k1
   go_enter Tryz.func43,Tryz.ntmps43
   go_wp2
   go_ret2
   exact ⟨congrArg (fun t=>Ending.returned (.tuple #[I J (a + b),.bool t])) (by simp [inB,maxV]; omega),rfl⟩
 ·have HR:Hid (madeR 4 a b = (a - b)):=rfl
  have HR2:Hid (madeV 4 a b = (a - b)):=rfl
  rw [HR.out,HR2.out]
  by_cases k1:-144115188075855872 <= (a - b)
  ·have d1:decide (-144115188075855872 <= (a - b)) = true:=by simpa using k1
   go_enter Tryz.func43,Tryz.ntmps43
   go_wp2
   go_ret2
   exact ⟨congrArg (fun t=>Ending.returned (.tuple #[I J (a - b),.bool t])) (by simp [inB,maxV]; omega),rfl⟩
  ·have d1:decide (-144115188075855872 <= (a - b)) = false:=by simpa using k1
   go_enter Tryz.func43,Tryz.ntmps43
   go_wp2
   go_ret2
   exact ⟨congrArg (fun t=>Ending.returned (.tuple #[I J (a - b),.bool t])) (by simp [inB,maxV]; omega),rfl⟩
 ·have HR:Hid (madeR 5 a b = a * b):=rfl
  rw [HR.out]
  have hC:=reftimes_calls a b w ha1 ha2 hb1 hb2
  cases hin:inB maxV (a * b)
  ·rw [times_big hin] at hC
   have HC:=hid hC
   have HI:Hid (inB maxV (a * b) = false):=hin
   have HV:Hid (madeV 5 a b = 0):=by show madeV 5 a b = 0; unfold madeV; rw [if_pos rfl,times_big hin]
   clear hC hin
   go_enter Tryz.func43,Tryz.ntmps43
   go_wp2_with (go_at_call 81; refine (HC.out).mono ?_; rintro e w' ⟨rfl,rfl⟩)
   go_ret2
   exact ⟨by rw [HV.out]; rfl,rfl⟩
  ·rw [times_ok hin] at hC
   have HC:=hid hC
   have HI:Hid (inB maxV (a * b) = true):=hin
   have HV:Hid (madeV 5 a b = a * b):=by show madeV 5 a b = _; unfold madeV; rw [if_pos rfl,times_ok hin]
   have hb:=(inB_iff _ _).1 hin
   unfold maxV at hb
   obtain ⟨k1,k2⟩:=hb
   have d1:decide (-144115188075855872 <= a * b) = true:=by simpa using k1
   have d2:decide (a * b <= 144115188075855872) = true:=by simpa using k2
   clear hC hin
   generalize a * b = r at *
   go_enter Tryz.func43,Tryz.ntmps43
   go_wp2_with (go_at_call 81; refine (HC.out).mono ?_; rintro e w' ⟨rfl,rfl⟩)
   go_ret2
   exact ⟨by rw [HV.out]; rfl,rfl⟩
 ·have HR:Hid (madeR 6 a b = (min a b)):=rfl
  have HR2:Hid (madeV 6 a b = (min a b)):=rfl
  rw [HR.out,HR2.out]
  by_cases k1:-144115188075855872 <= (min a b)
  ·have d1:decide (-144115188075855872 <= (min a b)) = true:=by simpa using k1
   go_enter Tryz.func43,Tryz.ntmps43
   go_wp2
   go_ret2
   exact ⟨congrArg (fun t=>Ending.returned (.tuple #[I J (min a b),.bool t])) (by simp [inB,maxV]; omega),rfl⟩
  ·have d1:decide (-144115188075855872 <= (min a b)) = false:=by simpa using k1
   go_enter Tryz.func43,Tryz.ntmps43
   go_wp2
   go_ret2
   exact ⟨congrArg (fun t=>Ending.returned (.tuple #[I J (min a b),.bool t])) (by simp [inB,maxV]; omega),rfl⟩
 ·have HR:Hid (madeR 7 a b = (max a b)):=rfl
  have HR2:Hid (madeV 7 a b = (max a b)):=rfl
  rw [HR.out,HR2.out]
  by_cases k1:-144115188075855872 <= (max a b)
  ·have d1:decide (-144115188075855872 <= (max a b)) = true:=by simpa using k1
   go_enter Tryz.func43,Tryz.ntmps43
   go_wp2
   go_ret2
   exact ⟨congrArg (fun t=>Ending.returned (.tuple #[I J (max a b),.bool t])) (by simp [inB,maxV]; omega),rfl⟩
  ·have d1:decide (-144115188075855872 <= (max a b)) = false:=by simpa using k1
   go_enter Tryz.func43,Tryz.ntmps43
   go_wp2
   go_ret2
   exact ⟨congrArg (fun t=>Ending.returned (.tuple #[I J (max a b),.bool t])) (by simp [inB,maxV]; omega),rfl⟩
set_option maxRecDepth 20000
set_option maxHeartbeats 1000000
theorem ahead_no (a p:Int) (h:decide (0 <= a) = false):aheadB a p = false:=by simp at h; simp [aheadB]; omega
theorem ahead_yes (a p:Int) (h:decide (0 <= a) = true):aheadB a p = decide (a < p):=by simp at h; simp [aheadB,h]
theorem mayDef_calls (d:Df) (p:Int) (w:World) :
 Calls Tryz.prog 42 #[dfV d,I J p] w fun e w'=>e = .returned (.bool (defB d p)) /\ Below w.heap.size w w':=by
 unfold dfV
 obtain ⟨op,num,a,b⟩:=d
 simp only
 have HD:Hid (defB ⟨op,num,a,b⟩ p = if op = 1 then decide (a = 0 /\ b = 0) else if op = 2 then decide (num = 0) && (aheadB a p && decide (b = 0)) else if 3 <= op /\ op <= 7 then decide (num = 0) && (aheadB a p && aheadB b p) else false):=rfl
 generalize defB ⟨op,num,a,b⟩ p = D at *
 have hA:(decide (0 <= a) = false /\ aheadB a p = false) \/ (decide (0 <= a) = true /\ decide (a < p) = false /\ aheadB a p = false) \/ (decide (0 <= a) = true /\ decide (a < p) = true /\ aheadB a p = true):=by
  cases h:decide (0 <= a)
  ·exact .inl ⟨rfl,ahead_no a p h⟩
  ·rw [ahead_yes a p h]
   cases decide (a < p) <;> simp
 have hB:(decide (0 <= b) = false /\ aheadB b p = false) \/ (decide (0 <= b) = true /\ decide (b < p) = false /\ aheadB b p = false) \/ (decide (0 <= b) = true /\ decide (b < p) = true /\ aheadB b p = true):=by
  cases h:decide (0 <= b)
  ·exact .inl ⟨rfl,ahead_no b p h⟩
  ·rw [ahead_yes b p h]
   cases decide (b < p) <;> simp
 generalize aheadB a p = fa at *
 generalize aheadB b p = fb at *
 have hO:op = 1 \/ op = 2 \/ (3 <= op /\ op <= 7) \/ op < 1 \/ 7 < op:=by omega
 rcases hO with rfl | rfl | h3 | h0 | h8
 ·have HE:Hid (D = decide (a = 0 /\ b = 0)):=HD.out
  clear HD
  by_cases ha:a = 0
  ·have ea:(a == 0) = true:=by simpa using ha
   rcases hA with ⟨x1,rfl⟩ | ⟨x1,x2,rfl⟩ | ⟨x1,x2,rfl⟩ <;> rcases hB with ⟨y1,rfl⟩ | ⟨y1,y2,rfl⟩ | ⟨y1,y2,rfl⟩
   all_goals
    go_enter Tryz.func42,Tryz.ntmps42
    go_wp2
    go_ret
    exact ⟨ret_bool (by rw [HE.out]; simp [beqz,ha]),(Below.refl _ _).alloc (Nat.le_refl _) _⟩
  ·have ea:(a == 0) = false:=by simpa using ha
   rcases hA with ⟨x1,rfl⟩ | ⟨x1,x2,rfl⟩ | ⟨x1,x2,rfl⟩ <;> rcases hB with ⟨y1,rfl⟩ | ⟨y1,y2,rfl⟩ | ⟨y1,y2,rfl⟩
   all_goals
    go_enter Tryz.func42,Tryz.ntmps42
    go_wp2
    go_ret
    exact ⟨ret_bool (by rw [HE.out]; simp [ha]),(Below.refl _ _).alloc (Nat.le_refl _) _⟩
 ·have HE:Hid (D = (decide (num = 0) && (fa && decide (b = 0)))):=HD.out
  clear HD
  by_cases hb:b = 0
  ·have eb:(b == 0) = true:=by simpa using hb
   rcases hA with ⟨x1,rfl⟩ | ⟨x1,x2,rfl⟩ | ⟨x1,x2,rfl⟩ <;> rcases hB with ⟨y1,rfl⟩ | ⟨y1,y2,rfl⟩ | ⟨y1,y2,rfl⟩
   all_goals
    go_enter Tryz.func42,Tryz.ntmps42
    go_wp2
    go_ret
    exact ⟨ret_bool (by rw [HE.out]; simp [beqz,hb]),(Below.refl _ _).alloc (Nat.le_refl _) _⟩
  ·have eb:(b == 0) = false:=by simpa using hb
   rcases hA with ⟨x1,rfl⟩ | ⟨x1,x2,rfl⟩ | ⟨x1,x2,rfl⟩ <;> rcases hB with ⟨y1,rfl⟩ | ⟨y1,y2,rfl⟩ | ⟨y1,y2,rfl⟩
   all_goals
    go_enter Tryz.func42,Tryz.ntmps42
    go_wp2
    go_ret
    exact ⟨ret_bool (by rw [HE.out]; simp [hb]),(Below.refl _ _).alloc (Nat.le_refl _) _⟩
 ·have HE:Hid (D = (decide (num = 0) && (fa && fb))):=by have:=HD.out; rw [if_neg (by omega),if_neg (by omega),if_pos h3] at this; exact this
  clear HD
  have e1:(op == 1) = false:=by simp; omega
  have e2:(op == 2) = false:=by simp; omega
  have e3:decide (3 <= op) = true:=by simpa using h3.1
  have e7:decide (op <= 7) = true:=by simpa using h3.2
  rcases hA with ⟨x1,rfl⟩ | ⟨x1,x2,rfl⟩ | ⟨x1,x2,rfl⟩ <;> rcases hB with ⟨y1,rfl⟩ | ⟨y1,y2,rfl⟩ | ⟨y1,y2,rfl⟩
  all_goals
   go_enter Tryz.func42,Tryz.ntmps42
   go_wp2
   go_ret
   exact ⟨ret_bool (by rw [HE.out]; simp [beqz]),(Below.refl _ _).alloc (Nat.le_refl _) _⟩
 ·have HE:Hid (D = false):=by have:=HD.out; rw [if_neg (by omega),if_neg (by omega),if_neg (by omega)] at this; exact this
  clear HD
  have e1:(op == 1) = false:=by simp; omega
  have e2:(op == 2) = false:=by simp; omega
  have e3:decide (3 <= op) = false:=by simp; omega
  rcases hA with ⟨x1,rfl⟩ | ⟨x1,x2,rfl⟩ | ⟨x1,x2,rfl⟩ <;> rcases hB with ⟨y1,rfl⟩ | ⟨y1,y2,rfl⟩ | ⟨y1,y2,rfl⟩
  all_goals
   go_enter Tryz.func42,Tryz.ntmps42
   go_wp2
   go_ret
   exact ⟨ret_bool (by rw [HE.out]; try simp),(Below.refl _ _).alloc (Nat.le_refl _) _⟩
 ·have HE:Hid (D = false):=by have:=HD.out; rw [if_neg (by omega),if_neg (by omega),if_neg (by omega)] at this; exact this
  clear HD
  have e1:(op == 1) = false:=by simp; omega
  have e2:(op == 2) = false:=by simp; omega
  have e3:decide (3 <= op) = true:=by simp; omega
  have e7:decide (op <= 7) = false:=by simp; omega
  rcases hA with ⟨x1,rfl⟩ | ⟨x1,x2,rfl⟩ | ⟨x1,x2,rfl⟩ <;> rcases hB with ⟨y1,rfl⟩ | ⟨y1,y2,rfl⟩ | ⟨y1,y2,rfl⟩
  all_goals
   go_enter Tryz.func42,Tryz.ntmps42
   go_wp2
   go_ret
   exact ⟨ret_bool (by rw [HE.out]; try simp),(Below.refl _ _).alloc (Nat.le_refl _) _⟩
end Go.Proofs.YtlaodgdlkkmmeaaGreat
