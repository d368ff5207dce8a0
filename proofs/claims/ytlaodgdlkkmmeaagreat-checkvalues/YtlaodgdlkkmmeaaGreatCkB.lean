/-
  The number of a definition: worth.
-/
import Derived.Deep.RegionHeld3
import Derived.Lib.MinMax
import Derived.Test.YtlaodgdlkkmmeaaGreatCkA
import Derived.Test.YtlaodgdlkkmmeaaGreatG04
namespace Go.Proofs.YtlaodgdlkkmmeaaGreat
open Go.RowKit Go.Deep
open Go.Value renaming int->I,slice->Γ
open Go.IntKind renaming i64->J
open Go.Obj renaming cells->Δ
open Go.Ending renaming returned->Ω
set_option maxRecDepth 20000
set_option maxHeartbeats 2000000
/-- Numbers in a row that can be read. -/
def IsI (w:World) (ao:Option Addr) (vs:List Int):Prop:=∀ i v,vs[i]? = some v -> ∃ g off,ao = some ⟨g,off,none⟩ /\ w.cell? ⟨g,off + i,none⟩ = some (I J v)
theorem IsI.below {w w':World} {ao:Option Addr} {vs:List Int} (h:IsI w ao vs) (hb:Below w.heap.size w w'):IsI w' ao vs:=fun i v hi=>by
 obtain ⟨g,off,e,hc⟩:=h i v hi
 exact ⟨g,off,e,by rw [hb.cell (World.block_lt_of_cell? w _ hc)]; exact hc⟩
/-- A definition's places are ahead of it. -/
structure DfIn (d:Df) (n:Nat):Prop where
 num:InR d.num
 a:2 <= d.op -> d.op <= 7 -> 0 <= d.a /\ d.a < n
 b:3 <= d.op -> d.op <= 7 -> 0 <= d.b /\ d.b < n
theorem vAt_get {vs:List Int} {i:Nat} (h:i < vs.length):vs[i]? = some (vAt vs (i:Int)):=by
 simp [vAt,List.getD,List.getElem?_eq_getElem h]
theorem vAt_in {vs:List Int} {i:Nat} (h:i < vs.length):vAt vs (i:Int) ∈ vs:=List.mem_of_getElem? (vAt_get h)
def dfV (d:Df):Value:=.agg #[I J d.op,I J d.num,I J d.a,I J d.b]
def WPost (r:Int) (w:World) (e:Ending) (w':World):Prop:=(∃ v,e = Ω (.tuple #[I J v,.bool (inB maxV r)]) /\ (inB maxV r = true -> v = r)) /\ Below w.heap.size w w'
theorem worth_num (op num a b:Int) (va:Option Addr) (n c:Nat) (w:World) (h:op < 2 \/ 7 < op) :
 Calls Tryz.prog 41 #[.agg #[I J op,I J num,I J a,I J b],Γ va n c] w (WPost num w):=by
 have HW:Hid (∀ w,Calls Tryz.prog 80 #[I J num,I J 144115188075855872] w fun e w'=>e = Ω (.bool (inB maxV num)) /\ w' = w):=fun w=>within_calls num 144115188075855872 w (by omega) (by omega)
 have k2:(op == 2) = false:=by rw [beq_eq_false_iff_ne]; omega
 have k3:(op == 3) = false:=by rw [beq_eq_false_iff_ne]; omega
 have k4:(op == 4) = false:=by rw [beq_eq_false_iff_ne]; omega
 have k5:(op == 5) = false:=by rw [beq_eq_false_iff_ne]; omega
 have k6:(op == 6) = false:=by rw [beq_eq_false_iff_ne]; omega
 have k7:(op == 7) = false:=by rw [beq_eq_false_iff_ne]; omega
 have HB:Hid (Below w.heap.size w (w.alloc (Δ #[I J op,I J num,I J a,I J b] 43))):=(Below.refl _ _).alloc (Nat.le_refl _) _
 clear h
 go_enter Tryz.func41,Tryz.ntmps41
 go_wp2_with (go_at_call 80; refine (HW.out _).mono ?_; rintro e w' ⟨rfl,rfl⟩)
 go_ret2
 exact ⟨⟨_,rfl,fun _=>rfl⟩,HB.out⟩
theorem worth_neg (num b:Int) (i:Nat) (g off:Nat) (x:Int) (n c:Nat) (w:World) (hi:i < n) (hx1:-144115188075855872 <= x) (hx2:x <= 144115188075855872) (hc:w.cell? ⟨g,off + i,none⟩ = some (I J x)) :
 Calls Tryz.prog 41 #[.agg #[I J 2,I J num,I J (i:Int),I J b],Γ (some ⟨g,off,none⟩) n c] w (WPost (-x) w):=by
 have HW:Hid (∀ w,Calls Tryz.prog 80 #[I J (-x),I J 144115188075855872] w fun e w'=>e = Ω (.bool (inB maxV (-x))) /\ w' = w):=fun w=>within_calls (-x) 144115188075855872 w (by omega) (by omega)
 have HB:Hid (Below w.heap.size w (w.alloc (Δ #[I J 2,I J num,I J (i:Int),I J b] 43))):=(Below.refl _ _).alloc (Nat.le_refl _) _
 rw [<- HB.out.cell (World.block_lt_of_cell? w _ hc)] at hc
 go_enter Tryz.func41,Tryz.ntmps41
 go_wp2_with (go_at_call 80; refine (HW.out _).mono ?_; rintro e w' ⟨rfl,rfl⟩)
 go_ret2
 exact ⟨⟨_,rfl,fun _=>rfl⟩,HB.out⟩
theorem below_dn {B:Nat} {a w:World} (h:Below B a w) (n:Nat):Below B a (w.drewN n):=h.trans ⟨rfl,rfl,rfl,Nat.le_refl _,fun _ _=>rfl⟩
theorem worth_add (num:Int) (i j:Nat) (g off:Nat) (x y:Int) (n c:Nat) (w:World) (hi:i < n) (hj:j < n) (hx1:-144115188075855872 <= x) (hx2:x <= 144115188075855872) (hy1:-144115188075855872 <= y) (hy2:y <= 144115188075855872) (hc:w.cell? ⟨g,off + i,none⟩ = some (I J x)) (hd:w.cell? ⟨g,off + j,none⟩ = some (I J y)) :
 Calls Tryz.prog 41 #[.agg #[I J 3,I J num,I J (i:Int),I J (j:Int)],Γ (some ⟨g,off,none⟩) n c] w (WPost (x + y) w):=by
 have HB:Hid (Below w.heap.size w (w.alloc (Δ #[I J 3,I J num,I J (i:Int),I J (j:Int)] 43))):=(Below.refl _ _).alloc (Nat.le_refl _) _
 rw [<- HB.out.cell (World.block_lt_of_cell? w _ hc)] at hc
 rw [<- HB.out.cell (World.block_lt_of_cell? w _ hd)] at hd
 have HW:Hid (∀ w,Calls Tryz.prog 80 #[I J (x + y),I J 144115188075855872] w fun e w'=>e = Ω (.bool (inB maxV (x + y))) /\ w' = w):=fun w=>within_calls (x + y) 144115188075855872 w (by omega) (by omega)
 go_enter Tryz.func41,Tryz.ntmps41
 go_wp2_with fail
 go_quiet (fail)
 go_wp2_with (go_at_call 80; refine (HW.out _).mono ?_; rintro e w' ⟨rfl,rfl⟩)
 go_ret2
 exact ⟨⟨_,rfl,fun _=>rfl⟩,below_dn HB.out nq⟩
theorem worth_sub (num:Int) (i j:Nat) (g off:Nat) (x y:Int) (n c:Nat) (w:World) (hi:i < n) (hj:j < n) (hx1:-144115188075855872 <= x) (hx2:x <= 144115188075855872) (hy1:-144115188075855872 <= y) (hy2:y <= 144115188075855872) (hc:w.cell? ⟨g,off + i,none⟩ = some (I J x)) (hd:w.cell? ⟨g,off + j,none⟩ = some (I J y)) :
 Calls Tryz.prog 41 #[.agg #[I J 4,I J num,I J (i:Int),I J (j:Int)],Γ (some ⟨g,off,none⟩) n c] w (WPost (x - y) w):=by
 have HB:Hid (Below w.heap.size w (w.alloc (Δ #[I J 4,I J num,I J (i:Int),I J (j:Int)] 43))):=(Below.refl _ _).alloc (Nat.le_refl _) _
 rw [<- HB.out.cell (World.block_lt_of_cell? w _ hc)] at hc
 rw [<- HB.out.cell (World.block_lt_of_cell? w _ hd)] at hd
 have HW:Hid (∀ w,Calls Tryz.prog 80 #[I J (x - y),I J 144115188075855872] w fun e w'=>e = Ω (.bool (inB maxV (x - y))) /\ w' = w):=fun w=>within_calls (x - y) 144115188075855872 w (by omega) (by omega)
 go_enter Tryz.func41,Tryz.ntmps41
 go_wp2_with fail
 go_quiet (fail)
 go_wp2_with (go_at_call 80; refine (HW.out _).mono ?_; rintro e w' ⟨rfl,rfl⟩)
 go_ret2
 exact ⟨⟨_,rfl,fun _=>rfl⟩,below_dn HB.out nq⟩
theorem worth_min (num:Int) (i j:Nat) (g off:Nat) (x y:Int) (n c:Nat) (w:World) (hi:i < n) (hj:j < n) (_:-144115188075855872 <= x) (_:x <= 144115188075855872) (_:-144115188075855872 <= y) (_:y <= 144115188075855872) (hc:w.cell? ⟨g,off + i,none⟩ = some (I J x)) (hd:w.cell? ⟨g,off + j,none⟩ = some (I J y)) :
 Calls Tryz.prog 41 #[.agg #[I J 6,I J num,I J (i:Int),I J (j:Int)],Γ (some ⟨g,off,none⟩) n c] w (WPost (min x y) w):=by
 have HB:Hid (Below w.heap.size w (w.alloc (Δ #[I J 6,I J num,I J (i:Int),I J (j:Int)] 43))):=(Below.refl _ _).alloc (Nat.le_refl _) _
 rw [<- HB.out.cell (World.block_lt_of_cell? w _ hc)] at hc
 rw [<- HB.out.cell (World.block_lt_of_cell? w _ hd)] at hd
 have HW:Hid (∀ w,Calls Tryz.prog 80 #[I J (min x y),I J 144115188075855872] w fun e w'=>e = Ω (.bool (inB maxV (min x y))) /\ w' = w):=fun w=>within_calls (min x y) 144115188075855872 w (by omega) (by omega)
 go_enter Tryz.func41,Tryz.ntmps41
 go_wp2_with fail
 have b2:(w.alloc (Δ #[I J 6,I J num,I J (i:Int),I J (j:Int)] 43)).cell? ⟨w.heap.size,2,none⟩ = some (I J (i:Int)):=blk (heap_alloc_new w _) rfl
 have b3:(w.alloc (Δ #[I J 6,I J num,I J (i:Int),I J (j:Int)] 43)).cell? ⟨w.heap.size,3,none⟩ = some (I J (j:Int)):=blk (heap_alloc_new w _) rfl
 generalize w.alloc (Δ #[I J 6,I J num,I J (i:Int),I J (j:Int)] 43) = w1 at *
 go_region_held3 (fun W=>W.cell? ⟨g,off + i,none⟩ = some (I J x) /\ W.cell? ⟨g,off + j,none⟩ = some (I J y) /\ W.cell? ⟨w.heap.size,2,none⟩ = some (I J (i:Int)) /\ W.cell? ⟨w.heap.size,3,none⟩ = some (I J (j:Int))) (first | with_reducible assumption | exact ⟨by assumption,by assumption,by assumption,by assumption⟩) (fail)
 go_wp2_with (go_at_call 80; refine (HW.out _).mono ?_; rintro e w' ⟨rfl,rfl⟩)
 go_ret2
 exact ⟨⟨_,rfl,fun _=>rfl⟩,HB.out.drew⟩
theorem worth_max (num:Int) (i j:Nat) (g off:Nat) (x y:Int) (n c:Nat) (w:World) (hi:i < n) (hj:j < n) (_:-144115188075855872 <= x) (_:x <= 144115188075855872) (_:-144115188075855872 <= y) (_:y <= 144115188075855872) (hc:w.cell? ⟨g,off + i,none⟩ = some (I J x)) (hd:w.cell? ⟨g,off + j,none⟩ = some (I J y)) :
 Calls Tryz.prog 41 #[.agg #[I J 7,I J num,I J (i:Int),I J (j:Int)],Γ (some ⟨g,off,none⟩) n c] w (WPost (max x y) w):=by
 have HB:Hid (Below w.heap.size w (w.alloc (Δ #[I J 7,I J num,I J (i:Int),I J (j:Int)] 43))):=(Below.refl _ _).alloc (Nat.le_refl _) _
 rw [<- HB.out.cell (World.block_lt_of_cell? w _ hc)] at hc
 rw [<- HB.out.cell (World.block_lt_of_cell? w _ hd)] at hd
 have HW:Hid (∀ w,Calls Tryz.prog 80 #[I J (max x y),I J 144115188075855872] w fun e w'=>e = Ω (.bool (inB maxV (max x y))) /\ w' = w):=fun w=>within_calls (max x y) 144115188075855872 w (by omega) (by omega)
 go_enter Tryz.func41,Tryz.ntmps41
 go_wp2_with fail
 have b2:(w.alloc (Δ #[I J 7,I J num,I J (i:Int),I J (j:Int)] 43)).cell? ⟨w.heap.size,2,none⟩ = some (I J (i:Int)):=blk (heap_alloc_new w _) rfl
 have b3:(w.alloc (Δ #[I J 7,I J num,I J (i:Int),I J (j:Int)] 43)).cell? ⟨w.heap.size,3,none⟩ = some (I J (j:Int)):=blk (heap_alloc_new w _) rfl
 generalize w.alloc (Δ #[I J 7,I J num,I J (i:Int),I J (j:Int)] 43) = w1 at *
 go_region_held3 (fun W=>W.cell? ⟨g,off + i,none⟩ = some (I J x) /\ W.cell? ⟨g,off + j,none⟩ = some (I J y) /\ W.cell? ⟨w.heap.size,2,none⟩ = some (I J (i:Int)) /\ W.cell? ⟨w.heap.size,3,none⟩ = some (I J (j:Int))) (first | with_reducible assumption | exact ⟨by assumption,by assumption,by assumption,by assumption⟩) (fail)
 go_wp2_with (go_at_call 80; refine (HW.out _).mono ?_; rintro e w' ⟨rfl,rfl⟩)
 go_ret2
 exact ⟨⟨_,rfl,fun _=>rfl⟩,HB.out.drew⟩
theorem worth_mul (num:Int) (i j:Nat) (g off:Nat) (x y:Int) (n c:Nat) (w:World) (hi:i < n) (hj:j < n) (hx1:-144115188075855872 <= x) (hx2:x <= 144115188075855872) (hy1:-144115188075855872 <= y) (hy2:y <= 144115188075855872) (hc:w.cell? ⟨g,off + i,none⟩ = some (I J x)) (hd:w.cell? ⟨g,off + j,none⟩ = some (I J y)) :
 Calls Tryz.prog 41 #[.agg #[I J 5,I J num,I J (i:Int),I J (j:Int)],Γ (some ⟨g,off,none⟩) n c] w (WPost (x * y) w):=by
 have HB:Hid (Below w.heap.size w (w.alloc (Δ #[I J 5,I J num,I J (i:Int),I J (j:Int)] 43))):=(Below.refl _ _).alloc (Nat.le_refl _) _
 rw [<- HB.out.cell (World.block_lt_of_cell? w _ hc)] at hc
 rw [<- HB.out.cell (World.block_lt_of_cell? w _ hd)] at hd
 have HW:Hid (∀ w,Calls Tryz.prog 79 #[I J x,I J y] w fun e w'=>e = Ω (.tuple #[I J (timesB x y).1,.bool (timesB x y).2]) /\ w' = w):=fun w=>times_calls x y w hx1 hx2 hy1 hy2
 have HT:Hid (∃ v,(timesB x y).1 = v /\ (timesB x y).2 = inB maxV (x * y) /\ (inB maxV (x * y) = true -> v = x * y)):=by
  refine ⟨_,rfl,?_⟩
  unfold timesB
  cases h:inB maxV (x * y) <;> simp
 obtain ⟨v,h1,h2,h3⟩:=HT.out
 rw [h1,h2] at HW
 have HV:=hid h3
 clear HT h1 h2 h3
 generalize x * y = r at *
 go_enter Tryz.func41,Tryz.ntmps41
 go_wp2_with fail
 go_quiet ((go_at_call 79; exact Calls.quiet_of_same (HW.out _)))
 go_wp2
 go_ret2
 exact ⟨⟨v,rfl,HV.out⟩,below_dn HB.out nq⟩
theorem worth_calls (d:Df) (vs:List Int) (va:Option Addr) (c:Nat) (w:World) (hI:IsI w va vs) (hv:∀ v ∈ vs,-144115188075855872 <= v /\ v <= 144115188075855872) (hd:DfIn d vs.length) :
 Calls Tryz.prog 41 #[dfV d,Γ va vs.length c] w (WPost (rawB vs d) w):=by
 obtain ⟨op,num,a,b⟩:=d
 unfold dfV
 simp only
 by_cases h1:2 <= op /\ op <= 7
 ·obtain ⟨ha0,ha1⟩:=hd.a h1.1 h1.2
  simp only at ha0 ha1
  obtain ⟨i,rfl⟩:=Int.eq_ofNat_of_zero_le ha0
  have hi:i < vs.length:=by omega
  obtain ⟨g,off,rfl,hc⟩:=hI i _ (vAt_get hi)
  have hx:=hv _ (vAt_in hi)
  by_cases h2:op = 2
  ·subst h2
   have:=worth_neg num b i g off (vAt vs (i:Int)) vs.length c w hi hx.1 hx.2 hc
   simpa [rawB] using this
  ·obtain ⟨hb0,hb1⟩:=hd.b (by simp only; omega) h1.2
   simp only at hb0 hb1
   obtain ⟨j,rfl⟩:=Int.eq_ofNat_of_zero_le hb0
   have hj:j < vs.length:=by omega
   obtain ⟨g',off',e,hd'⟩:=hI j _ (vAt_get hj)
   cases e
   have hy:=hv _ (vAt_in hj)
   have hop:op = 3 \/ op = 4 \/ op = 5 \/ op = 6 \/ op = 7:=by omega
   rcases hop with rfl | rfl | rfl | rfl | rfl
   ·exact worth_add num i j g off _ _ vs.length c w hi hj hx.1 hx.2 hy.1 hy.2 hc hd'
   ·exact worth_sub num i j g off _ _ vs.length c w hi hj hx.1 hx.2 hy.1 hy.2 hc hd'
   ·exact worth_mul num i j g off _ _ vs.length c w hi hj hx.1 hx.2 hy.1 hy.2 hc hd'
   ·exact worth_min num i j g off _ _ vs.length c w hi hj hx.1 hx.2 hy.1 hy.2 hc hd'
   ·exact worth_max num i j g off _ _ vs.length c w hi hj hx.1 hx.2 hy.1 hy.2 hc hd'
 ·have:=worth_num op num a b va vs.length c w (by omega)
  have e:rawB vs ⟨op,num,a,b⟩ = num:=by
   simp only [rawB]
   rw [if_neg (by omega),if_neg (by omega),if_neg (by omega),if_neg (by omega),if_neg (by omega),if_neg (by omega)]
  rw [e]; exact this
end Go.Proofs.YtlaodgdlkkmmeaaGreat
