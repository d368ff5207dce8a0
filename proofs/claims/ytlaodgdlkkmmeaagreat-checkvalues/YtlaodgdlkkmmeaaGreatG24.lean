/-
  Parse. The chapter's examples. Same: of lists of expressions, of trees.
-/
import Derived.Recover
import Derived.Test.YtlaodgdlkkmmeaaGreatDeep
import Derived.Test.YtlaodgdlkkmmeaaGreatG22
import Derived.Test.YtlaodgdlkkmmeaaGreatG23
namespace Go.Proofs.YtlaodgdlkkmmeaaGreat
open Go.RowKit Go.Deep
open Go.Value renaming int->I,pointer->Φ,slice->Γ
open Go.IntKind renaming i64->J
open Go.Obj renaming cells->Δ
open Go.Ending renaming returned->Ω
set_option maxRecDepth 20000
set_option maxHeartbeats 4000000
def endW (x:Rs (List It)):List It × Int × Int:=
 match x.val with
 | none=>([],70,plOf x.rest)
 | some its=>if (flt x.many (0,0)).1 ≠ 0 then ([],flt x.many (0,0)) else if (deepR its).1 ≠ 0 then ([],deepR its) else (its,0,0)
def parseW (s:List UInt8):List It × Int × Int:=if (scanB s).2.2 ≠ 0 then ([],(scanB s).2.2,((scanB s).2.1:Int)) else endW (sourceG (scanB s).1)
def TreePost (a:List It × Int × Int) (w:World) (e:Ending) (w':World):Prop:=
 ∃ ao n c,e = Ω (.tuple #[.agg #[Γ ao n c],.agg #[I J a.2.1,I J a.2.2]]) /\ n <= 4002 /\ ItsAt true (fun g=>w.heap.size <= g) w' a.1 ao n /\ Below w.heap.size w w'
theorem catch_panicking (pb gt gf:Nat) (z0 z1 c a:Int) (pv:Value) (older:List PanicEntry) (w:World) (h2:w.cell? ⟨pb,2,none⟩ = some (I J c)) (h3:w.cell? ⟨pb,3,none⟩ = some (I J a))
 (ht:w.cell? ⟨gt,0,none⟩ = some (Γ none 0 0)) (htf:w.frozen? ⟨gt,0,none⟩ = false) (hf0:w.cell? ⟨gf,0,none⟩ = some (I J z0)) (hf1:w.cell? ⟨gf,1,none⟩ = some (I J z1)) (hff0:w.frozen? ⟨gf,0,none⟩ = false) (hff1:w.frozen? ⟨gf,1,none⟩ = false) (hne:¬ gt = gf) :
 CallsD Tryz.prog 37 #[Φ (some ⟨pb,0,none⟩),Φ (some ⟨gt,0,none⟩),Φ (some ⟨gf,0,none⟩)] (.panicking ({ v:=.iface 32 pv,recovered:=false } :: older)) w fun e u' w'=>
  e = Ω (.tuple #[]) /\ u' = .panicking ({ v:=.iface 32 pv,recovered:=true } :: older) /\ w' = ((w.setCell ⟨gt,0,none⟩ (Γ none 0 0)).setCell ⟨gf,0,none⟩ (I J c)).setCell ⟨gf,1,none⟩ (I J a):=by
 refine callsD_of_wpS Tryz.func37 rfl fun c₀ cs hu=>?_
 apply wpS_seq
 apply wpS_region
 simp [wpOpsS,go_sem,recoverD,hu,Tryz.ntmps37,Exit.thenS]
 refine wpS_cond (t:=true) (by simp [Act.eval,Array.replicate]) ?_
 simp only [if_true]
 apply wpS_region
 simp [wpOpsS,go_sem,h2,h3,ht,htf,hf0,hf1,hff0,hff1,bodyPostS,results,Tryz.results37]
theorem catch_idle (pb gt gf:Nat) (w:World) :
 CallsD Tryz.prog 37 #[Φ (some ⟨pb,0,none⟩),Φ (some ⟨gt,0,none⟩),Φ (some ⟨gf,0,none⟩)] .returning w fun e u' w'=>e = Ω (.tuple #[]) /\ u' = .returning /\ w' = w:=by
 refine callsD_of_wpS Tryz.func37 rfl fun c₀ cs hu=>?_
 apply wpS_seq
 apply wpS_region
 simp [wpOpsS,go_sem,recoverD,hu,Tryz.ntmps37,Exit.thenS]
 refine wpS_cond (t:=false) (by simp [Act.eval,Array.replicate]) ?_
 simp only [Bool.false_eq_true,if_false]
 refine wpS_of_wp (wp_skip ?_)
 cases c₀
 simp_all [bodyPostS,results,Tryz.results37]
/-- Blocks that are as they were: the two results, and what was made since. -/
structure RL (b:Nat) (ta:Option Addr) (tn tc:Nat) (T:List Tk) (w:World) (l:List Tk) (f:Int × Int) (W:World):Prop where
 p:PAt b ta tn tc T l f W
 low:Below w.heap.size w W
 nb:w.heap.size + 1 < b
 rt:W.heap[w.heap.size]? = some (Δ #[Γ none 0 0] 24 (0,0))
 rf:W.heap[w.heap.size + 1]? = some (Δ #[I J 0,I J 0] 32 (0,0))
section
variable {b:Nat} {ta:Option Addr} {tn tc:Nat} {T:List Tk} {w:World} {l:List Tk} {f:Int × Int} {W W':World}
theorem RL.go (h:RL b ta tn tc T w l f W) (hk:Kp b W W') {l':List Tk} {f':Int × Int} (hp:PAt b ta tn tc T l' f' W'):RL b ta tn tc T w l' f' W':=by
 have hnb:=h.nb
 have h1:=h.low.size
 exact ⟨hp,h.low.trans (hk.below (by omega) h1),hnb,by rw [hk.block _ (lt_block h.rt) (by omega)]; exact h.rt,by rw [hk.block _ (lt_block h.rf) (by omega)]; exact h.rf⟩
theorem RL.facts (h:RL b ta tn tc T w l f W):W.cell? ⟨b,2,none⟩ = some (I J f.1) /\ W.cell? ⟨b,3,none⟩ = some (I J f.2) /\ W.cell? ⟨w.heap.size,0,none⟩ = some (Γ none 0 0) /\ W.frozen? ⟨w.heap.size,0,none⟩ = false /\
 W.cell? ⟨w.heap.size + 1,0,none⟩ = some (I J 0) /\ W.cell? ⟨w.heap.size + 1,1,none⟩ = some (I J 0) /\ W.frozen? ⟨w.heap.size + 1,0,none⟩ = false /\ W.frozen? ⟨w.heap.size + 1,1,none⟩ = false /\ W.frozen? ⟨b,2,none⟩ = false /\ W.frozen? ⟨b,3,none⟩ = false:=by
 obtain ⟨k,_,_,hb⟩:=h.p.block
 exact ⟨blk hb rfl,blk hb rfl,blk h.rt rfl,blkf 0 h.rt,blk h.rf rfl,blk h.rf rfl,blkf 0 h.rf,blkf 1 h.rf,blkf 2 hb,blkf 3 hb⟩
end
theorem parse_calls (s:ByteArray) (w:World):Calls Tryz.prog 14 #[.string s] w fun e w'=>TreePost (parseW s.data.toList) w e w':=by
 have hres:Tryz.f14.results = #[.cell 2 24,.cell 3 32]:=by kernel_rfl
 have hmf:∀ (fn:Fn) (first cap:Array Value) (w:World),(Instr.makeFunc fn first cap).run Tryz.prog w = .ok (.func fn first cap) w:=fun _ _ _ _=>rfl
 have HSc:Hid (∀ w,Calls Tryz.prog 36 #[.string s] w fun e w'=>ScanPost (scanB s.data.toList) w e w'):=fun w=>scan_calls s w
 have HP:Hid (parseW s.data.toList = if (scanB s.data.toList).2.2 ≠ 0 then ([],(scanB s.data.toList).2.2,((scanB s.data.toList).2.1:Int)) else endW (sourceG (scanB s.data.toList).1)):=rfl
 have HG:Hid ((scanB s.data.toList).2.2 = 0 -> ∃ T',(scanB s.data.toList).1 = T' ++ [endTk s.data.toList.length]):=fun h=>by
  obtain ⟨_,_,T',h1,_⟩:=scan_good h
  exact ⟨T',h1⟩
 have HTk:Hid ((∀ t ∈ (scanB s.data.toList).1,TkOk t) /\ (scanB s.data.toList).1.length <= 4001):=⟨scan_ok _,scan_few _⟩
 generalize parseW s.data.toList = A at *
 generalize scanB s.data.toList = sc at *
 obtain ⟨T,at0,z⟩:=sc
 by_cases hz:z = 0
 ·subst hz
  have q:((0:Int) != 0) = false:=rfl
  have HA:Hid (A = endW (sourceG T)):=by
   have:=HP.out
   rw [if_neg (by simp)] at this; exact this
  obtain ⟨T',hT'⟩:=HG.out rfl
  have HT':=hid hT'
  clear HP HG hT'
  go_enter_defers Tryz.func14,Tryz.ntmps14
  go_wp2_with fail
  refine (HSc.out _).mono ?_
  rintro e w1 ⟨v,rfl,ho1,hb1⟩
  have hsz:((w.alloc (Δ #[Γ none 0 0] 24)).alloc (Δ #[I J 0,I J 0] 32)).heap.size = w.heap.size + 2:=by simp
  have ht0:w1.heap[w.heap.size]? = some (Δ #[Γ none 0 0] 24 (0,0)):=by
   rw [hb1.block _ (by rw [hsz]; omega)]; exact heap_old (heap_alloc_new w _)
  have hf0:w1.heap[w.heap.size + 1]? = some (Δ #[I J 0,I J 0] 32 (0,0)):=by
   rw [hb1.block _ (by rw [hsz]; omega)]
   have:=heap_alloc_new (w.alloc (Δ #[Γ none 0 0] 24)) (Δ #[I J 0,I J 0] 32)
   rwa [show (w.alloc (Δ #[Γ none 0 0] 24)).heap.size = w.heap.size + 1 by simp] at this
  have HB:Hid (Below w.heap.size w w1):=below_box' (below_box' hb1 |> fun h=>h)
  obtain ⟨ao,cap,rfl⟩:=owned_shape ho1
  have hsz1:w.heap.size + 2 <= w1.heap.size:=by have:=hb1.size; rw [hsz] at this; exact this
  have HR0:Hid (RL w1.heap.size ao T.length cap T w T (0,0) (w1.alloc (Δ #[Γ ao T.length cap,I J 0,I J 0,I J 0] 88))):=by
   have hbel:Below w1.heap.size w1 (w1.alloc (Δ #[Γ ao T.length cap,I J 0,I J 0,I J 0] 88)):=(Below.refl _ _).alloc (Nat.le_refl _) _
   have htk:TksAt w1 ao T.length T:=owned_tks ho1 HTk.out.1
   have hpos:0 < T.length:=by rw [HT'.out]; simp
   refine ⟨⟨⟨0,rfl,hpos,heap_alloc_new w1 _⟩,htk.below hbel,fun x hx=>?_,⟨T',_,HT'.out,rfl⟩,HTk.out.2⟩,HB.out.trans (hbel.mono HB.out.size),by omega,heap_old ht0,heap_old hf0⟩
   obtain ⟨b',off',hao,hc⟩:=htk.cells hpos
   have hc0:=(hc 0 T[0] (by simp)).1
   rw [hao] at hx
   cases hx
   exact World.block_lt_of_cell? w1 _ hc0
  clear ht0 hf0 ho1 hb1 hsz HSc HB
  have HSo:Hid (∀ W,PAt w1.heap.size ao T.length cap T T (0,0) W -> Calls Tryz.prog 38 #[Φ (some ⟨w1.heap.size,0,none⟩)] W (PPost w1.heap.size ao T.length cap T (0,0) (sourceG T) (VIts W.heap.size) W)):=fun W hW=>source_calls (exprN mx) (expr_suf (fac_suf mx)) (fun l f w h hl=>exprN_calls mx l f w h hl) T (0,0) W hW
  generalize sourceG T = X at *
  cases hx:X.val with
  | none=>
    have HN:Hid (∀ W,PAt w1.heap.size ao T.length cap T T (0,0) W -> Calls Tryz.prog 38 #[Φ (some ⟨w1.heap.size,0,none⟩)] W fun e w'=>∃ v,e = .panicked [{ v:=.iface 32 v,recovered:=false }] /\ Kp w1.heap.size W w' /\ PAt w1.heap.size ao T.length cap T X.rest (70,plOf X.rest) w'):=fun W hW=>calls_no (HSo.out W hW) hx
    have HA2:Hid (A = ([],70,plOf X.rest)):=by
     show A = _
     rw [HA.out]; unfold endW; rw [hx]
    clear hx HSo HA
    go_wp2_with fail
    refine (HN.out _ HR0.out.p).mono ?_
    rintro e w2 ⟨v,rfl,hk2,hp2⟩
    have HR2:Hid (RL w1.heap.size ao T.length cap T w X.rest (70,plOf X.rest) w2):=HR0.out.go hk2 hp2
    clear hk2 hp2 HR0 HN
    obtain ⟨r2,r3,rt0,rtf,rf0,rf1,rff0,rff1,rb2,rb3⟩:=HR2.out.facts
    have HBf:Hid (Below w.heap.size w (((w2.setCell ⟨w.heap.size,0,none⟩ (Γ none 0 0)).setCell ⟨w.heap.size + 1,0,none⟩ (I J 70)).setCell ⟨w.heap.size + 1,1,none⟩ (I J (plOf X.rest)))):=((HR2.out.low.setCell (p:=⟨w.heap.size,0,none⟩) (Nat.le_refl _) _).setCell (p:=⟨w.heap.size + 1,0,none⟩) (Nat.le_succ _) _).setCell (p:=⟨w.heap.size + 1,1,none⟩) (Nat.le_succ _) _
    refine leaves_cons (f:=37) (args:=#[Φ (some ⟨w1.heap.size,0,none⟩),Φ (some ⟨w.heap.size,0,none⟩),Φ (some ⟨w.heap.size + 1,0,none⟩)]) (by simp) (by simp [go_sem]) ?_
    refine (catch_panicking w1.heap.size w.heap.size (w.heap.size + 1) 0 0 70 (plOf X.rest) _ [] _ r2 r3 rt0 rtf rf0 rf1 rff0 rff1 (by omega)).mono ?_
    rintro e u' w'' ⟨rfl,rfl,rfl⟩
    refine ⟨.tuple #[.agg #[Γ none 0 0],.agg #[I J 70,I J (plOf X.rest)]],?_,?_⟩
    ·simp only [results,hres]
     go_simp
    ·rw [HA2.out]
     exact ⟨none,0,0,rfl,by omega,rfl,HBf.out⟩
  | some its=>
    have HN:Hid (∀ W,PAt w1.heap.size ao T.length cap T T (0,0) W -> Calls Tryz.prog 38 #[Φ (some ⟨w1.heap.size,0,none⟩)] W fun e w'=>∃ io n ic,e = Ω (Γ io n ic) /\ (n <= 4002 /\ ItsAt true (fun g=>W.heap.size <= g) w' its io n) /\ Kp w1.heap.size W w' /\ PAt w1.heap.size ao T.length cap T X.rest (flt X.many (0,0)) w'):=fun W hW=>by
     refine (calls_ok (HSo.out W hW) hx).mono ?_
     rintro e w' ⟨v,he,⟨io,n,ic,hv,hE⟩,hK,hP⟩
     exact ⟨io,n,ic,by rw [he,hv],hE,hK,hP⟩
    have HA2:Hid (A = if (flt X.many (0,0)).1 ≠ 0 then ([],flt X.many (0,0)) else if (deepR its).1 ≠ 0 then ([],deepR its) else (its,0,0)):=by
     show A = _
     rw [HA.out]; unfold endW; rw [hx]
    clear hx HSo HA
    generalize flt X.many (0,0) = fm at *
    generalize X.rest = lr at *
    obtain ⟨f1,f2⟩:=fm
    go_wp2_with fail
    refine (HN.out _ HR0.out.p).mono ?_
    rintro e w2 ⟨io,n,ic,rfl,⟨hn2,hI2⟩,hk2,hp2⟩
    have HR2:Hid (RL w1.heap.size ao T.length cap T w lr (f1,f2) w2):=HR0.out.go hk2 hp2
    have HI2:Hid (ItsAt true (fun g=>w1.heap.size + 1 <= g) w2 its io n):=hI2.base fun g _ hg=>by
     have h5:(w1.alloc (Δ #[Γ ao T.length cap,I J 0,I J 0,I J 0] 88)).heap.size <= g:=hg
     simpa using h5
    clear hk2 hp2 HR0 HN hI2
    obtain ⟨r2,r3,rt0,rtf,rf0,rf1,rff0,rff1,rb2,rb3⟩:=HR2.out.facts
    by_cases h1:f1 = 0
    ·subst h1
     have q1:((0:Int) == 0) = true:=rfl
     have HD:Hid (Calls Tryz.prog 39 #[Γ io n ic] w2 fun e w'=>e = Ω (.agg #[I J (deepR its).1,I J (deepR its).2]) /\ Below w2.heap.size w2 w'):=tooDeep_calls its io n ic w2 HI2.out hn2
     generalize deepR its = dp at *
     obtain ⟨d1,d2⟩:=dp
     go_wp2_with fail
     refine HD.out.mono ?_
     rintro e w3 ⟨rfl,hb3⟩
     have HR3:Hid (RL w1.heap.size ao T.length cap T w lr (0,f2) w3):=HR2.out.go (Kp.of_below hb3) (HR2.out.p.below hb3)
     have HI3:Hid (ItsAt true (fun g=>w1.heap.size + 1 <= g) w3 its io n):=HI2.out.below hb3
     clear hb3 HR2 HI2 HD r2 r3 rt0 rtf rf0 rf1 rff0 rff1 rb2 rb3
     obtain ⟨r2,r3,rt0,rtf,rf0,rf1,rff0,rff1,rb2,rb3⟩:=HR3.out.facts
     have HL3:Hid (Below w.heap.size w ((w3.setCell ⟨w1.heap.size,2,none⟩ (I J d1)).setCell ⟨w1.heap.size,3,none⟩ (I J d2))):=(HR3.out.low.setCell (p:=⟨w1.heap.size,2,none⟩) (by show w.heap.size <= w1.heap.size; omega) _).setCell (p:=⟨w1.heap.size,3,none⟩) (by show w.heap.size <= w1.heap.size; omega) _
     have HI4:Hid (∀ u0 u1 u2 u3 u4,ItsAt true (fun g=>w.heap.size <= g) (((((w3.setCell ⟨w1.heap.size,2,none⟩ u0).setCell ⟨w1.heap.size,3,none⟩ u1).setCell ⟨w.heap.size,0,none⟩ u2).setCell ⟨w.heap.size + 1,0,none⟩ u3).setCell ⟨w.heap.size + 1,1,none⟩ u4) its io n):=fun u0 u1 u2 u3 u4=>by
      refine ItsAt.base (fun g _ hg=>?_) (itsAt_keep (fun g _ hg=>?_) HI3.out)
      ·have h5:w1.heap.size + 1 <= g:=hg
       show w.heap.size <= g
       omega
      ·have h5:w1.heap.size + 1 <= g:=hg
       exact heap_other (heap_other (heap_other (heap_other (heap_other rfl (by omega)) (by omega)) (by omega)) (by omega)) (by omega)
     have hne1:¬ w1.heap.size = w.heap.size:=by omega
     have hne2:¬ w1.heap.size = w.heap.size + 1:=by omega
     have hne3:¬ w.heap.size = w1.heap.size:=by omega
     have hne4:¬ w.heap.size + 1 = w1.heap.size:=by omega
     clear HR3 HI3
     by_cases h2:d1 = 0
     ·subst h2
      have q2:((0:Int) != 0) = false:=rfl
      have HA3:Hid (A = (its,0,0)):=by
       have:=HA2.out
       rw [if_neg (by simp),if_neg (by simp)] at this; exact this
      clear HA2
      go_wp2_with fail
      refine leaves_cons (f:=37) (args:=#[Φ (some ⟨w1.heap.size,0,none⟩),Φ (some ⟨w.heap.size,0,none⟩),Φ (some ⟨w.heap.size + 1,0,none⟩)]) (by simp) (by simp [go_sem]) ?_
      refine (catch_idle w1.heap.size w.heap.size (w.heap.size + 1) _).mono ?_
      rintro e u' w'' ⟨rfl,rfl,rfl⟩
      refine ⟨.tuple #[.agg #[Γ io n ic],.agg #[I J 0,I J 0]],?_,?_⟩
      ·simp only [results,hres]
       go_simp
      ·rw [HA3.out]
       exact ⟨io,n,ic,rfl,hn2,HI4.out _ _ _ _ _,(((HL3.out.setCell (p:=⟨w.heap.size,0,none⟩) (Nat.le_refl _) _).setCell (p:=⟨w.heap.size + 1,0,none⟩) (Nat.le_succ _) _).setCell (p:=⟨w.heap.size + 1,1,none⟩) (Nat.le_succ _) _)⟩
     ·have q2:(d1 != 0) = true:=by simpa using h2
      have HA3:Hid (A = ([],d1,d2)):=by
       have:=HA2.out
       rw [if_neg (by simp),if_pos (by simpa using h2)] at this; exact this
      clear HA2 h2
      go_wp2_with fail
      go_region
      go_wp2_with fail
      refine leaves_cons (f:=37) (args:=#[Φ (some ⟨w1.heap.size,0,none⟩),Φ (some ⟨w.heap.size,0,none⟩),Φ (some ⟨w.heap.size + 1,0,none⟩)]) (by simp) (by simp [go_sem]) ?_
      refine (catch_idle w1.heap.size w.heap.size (w.heap.size + 1) _).mono ?_
      rintro e u' w'' ⟨rfl,rfl,rfl⟩
      refine ⟨.tuple #[.agg #[Γ none 0 0],.agg #[I J d1,I J d2]],?_,?_⟩
      ·simp only [results,hres]
       go_simp
      ·rw [HA3.out]
       exact ⟨none,0,0,rfl,by omega,rfl,by first | exact (((HL3.out.drew.setCell (p:=⟨w.heap.size,0,none⟩) (Nat.le_refl _) _).setCell (p:=⟨w.heap.size + 1,0,none⟩) (Nat.le_succ _) _).setCell (p:=⟨w.heap.size + 1,1,none⟩) (Nat.le_succ _) _) | exact (((HL3.out.setCell (p:=⟨w.heap.size,0,none⟩) (Nat.le_refl _) _).setCell (p:=⟨w.heap.size + 1,0,none⟩) (Nat.le_succ _) _).setCell (p:=⟨w.heap.size + 1,1,none⟩) (Nat.le_succ _) _)⟩
    ·have q1:(f1 == 0) = false:=by rw [beq_eq_false_iff_ne]; exact h1
     have q2:(f1 != 0) = true:=by simpa using h1
     have HA3:Hid (A = ([],f1,f2)):=by
      have:=HA2.out
      rw [if_pos (by simpa using h1)] at this; exact this
     clear HA2 h1
     go_wp2_with fail
     go_region
     go_wp2_with fail
     refine leaves_cons (f:=37) (args:=#[Φ (some ⟨w1.heap.size,0,none⟩),Φ (some ⟨w.heap.size,0,none⟩),Φ (some ⟨w.heap.size + 1,0,none⟩)]) (by simp) (by simp [go_sem]) ?_
     refine (catch_idle w1.heap.size w.heap.size (w.heap.size + 1) _).mono ?_
     rintro e u' w'' ⟨rfl,rfl,rfl⟩
     refine ⟨.tuple #[.agg #[Γ none 0 0],.agg #[I J f1,I J f2]],?_,?_⟩
     ·simp only [results,hres]
      go_simp
     ·rw [HA3.out]
      exact ⟨none,0,0,rfl,by omega,rfl,by first | exact (((HR2.out.low.drew.setCell (p:=⟨w.heap.size,0,none⟩) (Nat.le_refl _) _).setCell (p:=⟨w.heap.size + 1,0,none⟩) (Nat.le_succ _) _).setCell (p:=⟨w.heap.size + 1,1,none⟩) (Nat.le_succ _) _) | exact (((HR2.out.low.setCell (p:=⟨w.heap.size,0,none⟩) (Nat.le_refl _) _).setCell (p:=⟨w.heap.size + 1,0,none⟩) (Nat.le_succ _) _).setCell (p:=⟨w.heap.size + 1,1,none⟩) (Nat.le_succ _) _)⟩
 ·have q:(z != 0) = true:=by simpa using hz
  have HA:Hid (A = ([],z,(at0:Int))):=by
   have:=HP.out
   rw [if_pos (by simpa using hz)] at this; exact this
  clear hz HP HG HTk
  go_enter_defers Tryz.func14,Tryz.ntmps14
  go_wp2_with fail
  refine (HSc.out _).mono ?_
  rintro e w1 ⟨v,rfl,ho1,hb1⟩
  have hsz:((w.alloc (Δ #[Γ none 0 0] 24)).alloc (Δ #[I J 0,I J 0] 32)).heap.size = w.heap.size + 2:=by simp
  have ht0:w1.heap[w.heap.size]? = some (Δ #[Γ none 0 0] 24 (0,0)):=by
   rw [hb1.block _ (by rw [hsz]; omega)]; exact heap_old (heap_alloc_new w _)
  have hf0:w1.heap[w.heap.size + 1]? = some (Δ #[I J 0,I J 0] 32 (0,0)):=by
   rw [hb1.block _ (by rw [hsz]; omega)]
   have:=heap_alloc_new (w.alloc (Δ #[Γ none 0 0] 24)) (Δ #[I J 0,I J 0] 32)
   rwa [show (w.alloc (Δ #[Γ none 0 0] 24)).heap.size = w.heap.size + 1 by simp] at this
  have HB:Hid (Below w.heap.size w w1):=below_box' (below_box' hb1 |> fun h=>h)
  have t0:=blk (i:=0) ht0 rfl
  have tf:=blkf 0 ht0
  have g0:=blk (i:=0) hf0 rfl
  have g1:=blk (i:=1) hf0 rfl
  have gf0:=blkf 0 hf0
  have gf1:=blkf 1 hf0
  obtain ⟨ao,cap,rfl⟩:=owned_shape ho1
  have HBf:Hid (Below w.heap.size w (((w1.setCell ⟨w.heap.size,0,none⟩ (Γ none 0 0)).setCell ⟨w.heap.size + 1,0,none⟩ (I J z)).setCell ⟨w.heap.size + 1,1,none⟩ (I J (at0:Int)))):=((HB.out.setCell (p:=⟨w.heap.size,0,none⟩) (Nat.le_refl _) _).setCell (p:=⟨w.heap.size + 1,0,none⟩) (Nat.le_succ _) _).setCell (p:=⟨w.heap.size + 1,1,none⟩) (Nat.le_succ _) _
  clear ht0 hf0 ho1 hb1 hsz HSc
  go_wp2
  refine ⟨.tuple #[.agg #[Γ none 0 0],.agg #[I J z,I J (at0:Int)]],?_,?_⟩
  ·simp only [results,hres]
   go_simp
  ·rw [HA.out]
   exact ⟨none,0,0,rfl,by omega,rfl,HBf.out⟩
theorem keepc {W W':World} (h:Below W.heap.size W W') {p:Addr} {u:Value} (hc:W.cell? p = some u):W'.cell? p = some u:=by
 rw [h.cell (World.block_lt_of_cell? W _ hc)]; exact hc
end Go.Proofs.YtlaodgdlkkmmeaaGreat
