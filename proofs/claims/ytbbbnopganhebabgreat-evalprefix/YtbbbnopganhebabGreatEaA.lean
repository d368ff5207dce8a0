/-
  The chapter's example, run: awake.
-/
import Derived.BigQuiet
import Derived.Deep.QuietTactic
import Derived.Test.YtbbbnopganhebabGreatG39
import Derived.Test.YtbbbnopganhebabGreatRlE
import Derived.Test.YtbbbnopganhebabGreatVmF
import Derived.Test.YtbbbnopganhebabGreatCkG
namespace Go.Proofs.YtbbbnopganhebabGreat
open Go.RowKit Go.Deep Go.Maps
open Go.Value renaming int->I
open Go.IntKind renaming i64->J
set_option maxRecDepth 20000
set_option maxHeartbeats 4000000
theorem its_anyE {S:Nat -> Prop} {w:World} {l:List It} {ao:Option Addr} {n:Nat} (h:ItsAt true S w l ao n):ItsAt false (fun _=>True) w l ao n:=h.loose.base (fun _ _ _=>trivial)
def srcE:List UInt8:=[97,108,112,104,97,98,101,116,32,34,65,67,71,84,34,59,32,109,97,116,99,104,32,50,59,32,109,105,115,109,97,116,99,104,32,45,51,59,32,103,97,112,32,52,44,32,49,59,32,109,111,100,101,32,103,108,111,98,97,108,59]
theorem srcE_sim:(scanB srcE).1.all simT = true:=by kernel_rfl
theorem srcE_parse:(parseW srcE).2 = (0,0):=by kernel_rfl
def inRb (d:Df):Bool:=decide (-9223372036854775808 <= d.num) && decide (d.num <= 9223372036854775807)
def okA (c:Ck):Bool:=decide (c.letters.length <= 100) && (decide (c.defs.length <= 100) && (decide (c.subst.length <= 100) && (decide (c.pieces.length <= 100) && (c.defs.all inRb && (rightS (scOf c) && ((lowB (scOf c)).defs.all inRb && (decide ((lowB (scOf c)).defs.length <= 100) && (decide ((lowB (scOf c)).subst.length <= 100) && (decide ((lowB (scOf c)).states.length <= 100) && (decide (evalE (lowB (scOf c)) [0,1,2,3] [0,2,3] = ((1,0,0,[77,68,77,77]),0)) &&
 decide (valueE (lowB (scOf c)) [0,1,2,3] [0,2,3] 1 1 0 = (-5,true,0))))))))))))
def sayE:Bool:=treeRight (parseW srcE).1 && ((parseW srcE).1.all itSim && match takeAll (parseW srcE).1 ck0 with
 | .ok c=>!c.had 9 && (!c.had 10 && match endsB c with
   | .ok c'=>okA c'
   | .error _=>false)
 | .error _=>false)
theorem sayE_true:sayE = true:=by kernel_rfl
theorem srcE_check:∃ c,(treeRight (parseW srcE).1 = true /\ (parseW srcE).1.all itSim = true /\ ∃ c1 c2,takeAll (parseW srcE).1 ck0 = .ok c1 /\ endsB c1 = .ok c2 /\ c1.had 9 = false /\ c1.had 10 = false) /\ checkG (treeRight (parseW srcE).1) (parseW srcE).1 = .ok c /\ okA c = true:=by
 have h:=sayE_true
 unfold sayE at h
 rw [Bool.and_eq_true,Bool.and_eq_true] at h
 obtain ⟨g1,g2,h⟩:=h
 split at h
 ·next c1 hc1=>
  rw [Bool.and_eq_true,Bool.and_eq_true] at h
  obtain ⟨g3,g4,h⟩:=h
  split at h
  ·next c hc=>
   refine ⟨c,⟨g1,g2,c1,c,hc1,hc,by simpa using g3,by simpa using g4⟩,?_,h⟩
   rw [checkG_eq g1,hc1]; exact hc
  ·cases h
 ·cases h
theorem inRb_all {l:List Df} (h:l.all inRb = true):∀ d ∈ l,InR d.num:=fun d hd=>by
 have:=List.all_eq_true.1 h d hd
 unfold inRb at this
 simp only [Bool.and_eq_true,decide_eq_true_eq] at this
 exact this
theorem rcown_at {w:World} {B:Nat} {x:Rc} {da:Option Addr} {dn dc:Nat} {sa:Option Addr} {sn sc:Nat} {ta:Option Addr} {tn tc:Nat} (h:RcOwn w B x da dn dc sa sn sc ta tn tc) (h1:x.defs.all inRb = true) (h2:x.defs.length <= 100) (h3:x.subst.length <= 100) (h4:x.states.length <= 100):RcAt w x da dn sa sn ta tn:=by
 obtain ⟨e1,e2,e3,o1,o2,o3⟩:=h
 subst e1
 obtain ⟨ao,cap,e,hd⟩:=dfs_own (owned_base o1 (Nat.zero_le _)) (by unfold maxLen; omega) (inRb_all h1)
 cases e
 exact ⟨hd,intA_own o2 e2.symm (by unfold maxLen; omega),o3.at e3 (by omega)⟩
theorem c11 {W:World} {g:Nat} {ty:TypeId} {v0 v1 v2 v3 v4 v5 v6 v7 v8 v9 v10:Value} (h:W.heap[g]? = some (.cells #[v0,v1,v2,v3,v4,v5,v6,v7,v8,v9,v10] ty (0,0))):W.cell? ⟨g,0,none⟩ = some v0 /\ W.cell? ⟨g,1,none⟩ = some v1 /\ W.cell? ⟨g,2,none⟩ = some v2 /\ W.cell? ⟨g,3,none⟩ = some v3 /\ W.cell? ⟨g,4,none⟩ = some v4 /\ W.cell? ⟨g,5,none⟩ = some v5 /\ W.cell? ⟨g,6,none⟩ = some v6 /\ W.cell? ⟨g,7,none⟩ = some v7 /\ W.cell? ⟨g,8,none⟩ = some v8 /\ W.cell? ⟨g,9,none⟩ = some v9 /\ W.cell? ⟨g,10,none⟩ = some v10:=
 ⟨blk h rfl,blk h rfl,blk h rfl,blk h rfl,blk h rfl,blk h rfl,blk h rfl,blk h rfl,blk h rfl,blk h rfl,blk h rfl⟩
/-- A scheme's own block is none of those that it leads to. -/
theorem sch_set {W:World} {c:Ck} {s:Sl} {q:Nat} (h:SchAt W c s /\ ∃ cs,W.heap[q]? = some (.cells cs 57 (0,0))) (i:Nat) (u:Value):SchAt (W.setCell ⟨q,i,none⟩ u) c s /\ ∃ cs,(W.setCell ⟨q,i,none⟩ u).heap[q]? = some (.cells cs 57 (0,0)):=by
 obtain ⟨h,cs,hq⟩:=h
 have hne:∀ {e:TypeId} {g:Nat} {cur:Array Value},e ≠ 57 -> W.heap[g]? = some (.cells cur e (0,0)) -> (W.setCell ⟨q,i,none⟩ u).heap[g]? = W.heap[g]?:=fun he hg=>heap_other rfl (fun e=>by rw [e,hq] at hg; cases hg; exact he rfl)
 exact ⟨⟨owned_of_block h.defs fun g cur _ hg=>hne (by decide) hg,owned_of_block h.subst fun g cur _ hg=>hne (by decide) hg,owned_of_block h.pieces fun g cur _ hg=>hne (by decide) hg⟩,_,heap_put hq rfl⟩
theorem sch_drew {W:World} {c:Ck} {s:Sl} (h:SchAt W c s):SchAt W.drew c s:=⟨h.defs,h.subst,h.pieces⟩
theorem sch11 {w0 W:World} {g:Nat} {c:Ck} {s:Sl} {cs:Array Value} (h:Below w0.heap.size w0 W /\ W.heap[g]? = some (.cells cs 57 (0,0)) /\ SchAt W c s) (hg:w0.heap.size <= g) (v0 v1 v2 v3 v4 v5 v6 v7 v8 v9 v10:Value):SchAt ((((((((((((W.setCell ⟨g,0,none⟩ v0).setCell ⟨g,1,none⟩ v1).setCell ⟨g,2,none⟩ v2).setCell ⟨g,3,none⟩ v3).setCell ⟨g,4,none⟩ v4).setCell ⟨g,5,none⟩ v5).setCell ⟨g,6,none⟩ v6).setCell ⟨g,7,none⟩ v7).setCell ⟨g,8,none⟩ v8).setCell ⟨g,9,none⟩ v9).setCell ⟨g,10,none⟩ v10)).drew c s /\ Below w0.heap.size w0 ((((((((((((W.setCell ⟨g,0,none⟩ v0).setCell ⟨g,1,none⟩ v1).setCell ⟨g,2,none⟩ v2).setCell ⟨g,3,none⟩ v3).setCell ⟨g,4,none⟩ v4).setCell ⟨g,5,none⟩ v5).setCell ⟨g,6,none⟩ v6).setCell ⟨g,7,none⟩ v7).setCell ⟨g,8,none⟩ v8).setCell ⟨g,9,none⟩ v9).setCell ⟨g,10,none⟩ v10)).drew:=by
 have k:∀ {W:World} (i:Nat) (v:Value),(SchAt W c s /\ ∃ cs,W.heap[g]? = some (.cells cs 57 (0,0))) /\ Below w0.heap.size w0 W -> (SchAt (W.setCell ⟨g,i,none⟩ v) c s /\ ∃ cs,(W.setCell ⟨g,i,none⟩ v).heap[g]? = some (.cells cs 57 (0,0))) /\ Below w0.heap.size w0 (W.setCell ⟨g,i,none⟩ v):=fun i v h=>⟨sch_set h.1 i v,below_set h.2 hg v⟩
 have q:=k 10 v10 (k 9 v9 (k 8 v8 (k 7 v7 (k 6 v6 (k 5 v5 (k 4 v4 (k 3 v3 (k 2 v2 (k 1 v1 (k 0 v0 (⟨⟨h.2.2,_,h.2.1⟩,h.1⟩)))))))))))
 exact ⟨sch_drew q.1.1,q.2.drew⟩
theorem schemeE_calls (c:Ck) (hf:CkFit c) (hc:(treeRight (parseW srcE).1 = true /\ (parseW srcE).1.all itSim = true /\ ∃ c1 c2,takeAll (parseW srcE).1 ck0 = .ok c1 /\ endsB c1 = .ok c2 /\ c1.had 9 = false /\ c1.had 10 = false) /\ checkG (treeRight (parseW srcE).1) (parseW srcE).1 = .ok c) (w:World) :
 Calls Tryz.prog 15 #[.string ⟨#[97,108,112,104,97,98,101,116,32,34,65,67,71,84,34,59,32,109,97,116,99,104,32,50,59,32,109,105,115,109,97,116,99,104,32,45,51,59,32,103,97,112,32,52,44,32,49,59,32,109,111,100,101,32,103,108,111,98,97,108,59]⟩] w fun e w'=>∃ s,e = .returned (.tuple #[schV c s,.bool true]) /\ SchAt w' c s /\ Below w.heap.size w w':=by
 have hres:Tryz.f15.results = #[.cell 2 57,.tmp 3]:=by kernel_rfl
 obtain ⟨LA,hLA⟩:∃ LA,(parseW srcE).1 = LA:=⟨_,rfl⟩
 have HP1:Hid (∀ w,Calls Tryz.prog 28 #[.string ⟨#[97,108,112,104,97,98,101,116,32,34,65,67,71,84,34,59,32,109,97,116,99,104,32,50,59,32,109,105,115,109,97,116,99,104,32,45,51,59,32,103,97,112,32,52,44,32,49,59,32,109,111,100,101,32,103,108,111,98,97,108,59]⟩] w fun e w'=>TreePost (LA,0,0) w e w'):=fun w=>by
  have:=parse_calls ⟨#[97,108,112,104,97,98,101,116,32,34,65,67,71,84,34,59,32,109,97,116,99,104,32,50,59,32,109,105,115,109,97,116,99,104,32,45,51,59,32,103,97,112,32,52,44,32,49,59,32,109,111,100,101,32,103,108,111,98,97,108,59]⟩ w (List.all_eq_true.1 srcE_sim)
  have e:parseW srcE = (LA,0,0):=by rw [<- hLA]; exact Prod.ext rfl srcE_parse
  rw [<- e]; exact this
 rw [hLA] at hc
 have HG0:Hid (treeRight LA = true /\ LA.all itSim = true /\ ∃ c1 c2,takeAll LA ck0 = .ok c1 /\ endsB c1 = .ok c2 /\ c1.had 9 = false /\ c1.had 10 = false):=hc.1
 have HG1:Hid (checkG (treeRight LA) LA = .ok c):=hc.2
 clear hc hLA
 have HB0:Hid (Below w.heap.size w (w.alloc (.cells #[.string ⟨#[]⟩,.slice none 0 0,.slice none 0 0,.slice none 0 0,I J 0,.bool false,I J 0,I J 0,I J 0,I J 0,I J 0] 57))):=(Below.refl _ _).alloc (Nat.le_refl _) _
 go_enter Tryz.func15,Tryz.ntmps15
 go_wp2_with fail
 refine (HP1.out _).mono ?_
 rintro e w1 ⟨a1,n1,k1,rfl,hn1,hi1,hb1⟩
 have hB1:Below w1.heap.size w1 ((w1.alloc (.cells #[.slice a1 n1 k1] 85)).alloc (.cells #[I J 0,I J 0] 87)):=((Below.refl _ _).alloc (Nat.le_refl _) _).alloc (by simp) _
 have HC2:=check_calls LA a1 n1 k1 _ ((its_anyE hi1).below hB1) (by unfold maxLen; omega) HG0.out.1 HG0.out.2.1 HG0.out.2.2
 rw [HG1.out] at HC2
 have HX1:Hid (Below w.heap.size w ((w1.alloc (.cells #[.slice a1 n1 k1] 85)).alloc (.cells #[I J 0,I J 0] 87)) /\ ((w1.alloc (.cells #[.slice a1 n1 k1] 85)).alloc (.cells #[I J 0,I J 0] 87)).heap[w.heap.size]? = some (.cells #[.string ⟨#[]⟩,.slice none 0 0,.slice none 0 0,.slice none 0 0,I J 0,.bool false,I J 0,I J 0,I J 0,I J 0,I J 0] 57 (0,0))):=by
  have h0:(w.alloc (.cells #[.string ⟨#[]⟩,.slice none 0 0,.slice none 0 0,.slice none 0 0,I J 0,.bool false,I J 0,I J 0,I J 0,I J 0,I J 0] 57)).heap[w.heap.size]? = some (.cells #[.string ⟨#[]⟩,.slice none 0 0,.slice none 0 0,.slice none 0 0,I J 0,.bool false,I J 0,I J 0,I J 0,I J 0,I J 0] 57 (0,0)):=heap_alloc_new w _
  have h2:=hb1.trans (hB1.mono hb1.size)
  exact ⟨HB0.out.trans (h2.mono HB0.out.size),by rw [h2.block _ (lt_block h0)]; exact h0⟩
 clear hn1 hi1 hb1 hB1 HG0 HG1 HP1 HB0
 go_wp2_with fail
 refine HC2.mono ?_
 rintro e w2 ⟨s,rfl,hb2,hs⟩
 have HX2:Hid (Below w.heap.size w w2 /\ w2.heap[w.heap.size]? = some (.cells #[.string ⟨#[]⟩,.slice none 0 0,.slice none 0 0,.slice none 0 0,I J 0,.bool false,I J 0,I J 0,I J 0,I J 0,I J 0] 57 (0,0)) /\ SchAt w2 c s):=⟨HX1.out.1.trans (hb2.mono HX1.out.1.size),by rw [hb2.block _ (lt_block HX1.out.2)]; exact HX1.out.2,hs⟩
 obtain ⟨da,dc,sa,sc,pa,pc,es,_⟩:=sch_sc hs hf
 generalize c.defs.length = dn at es
 generalize c.subst.length = sn at es
 generalize c.pieces.length = pn at es
 have HE:Hid (schV c s = .agg #[.string (bs c.letters),.slice da dn dc,.slice sa sn sc,.slice pa pn pc,I J c.mode,.bool c.banded,I J c.lo,I J c.hi,I J c.front,I J c.back,I J c.least]):=es
 rw [HE.out]
 clear hb2 hs HX1 HC2 es hf
 unfold flV
 simp only
 have HX3:Hid (Below w.heap.size w ((w2.alloc (.cells #[.string (bs c.letters),.slice da dn dc,.slice sa sn sc,.slice pa pn pc,I J c.mode,.bool c.banded,I J c.lo,I J c.hi,I J c.front,I J c.back,I J c.least] 57)).alloc (.cells #[I J 0,I J 0] 87)) /\ ((w2.alloc (.cells #[.string (bs c.letters),.slice da dn dc,.slice sa sn sc,.slice pa pn pc,I J c.mode,.bool c.banded,I J c.lo,I J c.hi,I J c.front,I J c.back,I J c.least] 57)).alloc (.cells #[I J 0,I J 0] 87)).heap[w.heap.size]? = some (.cells #[.string ⟨#[]⟩,.slice none 0 0,.slice none 0 0,.slice none 0 0,I J 0,.bool false,I J 0,I J 0,I J 0,I J 0,I J 0] 57 (0,0)) /\ SchAt ((w2.alloc (.cells #[.string (bs c.letters),.slice da dn dc,.slice sa sn sc,.slice pa pn pc,I J c.mode,.bool c.banded,I J c.lo,I J c.hi,I J c.front,I J c.back,I J c.least] 57)).alloc (.cells #[I J 0,I J 0] 87)) c s):=by
  have hb:Below w2.heap.size w2 ((w2.alloc (.cells #[.string (bs c.letters),.slice da dn dc,.slice sa sn sc,.slice pa pn pc,I J c.mode,.bool c.banded,I J c.lo,I J c.hi,I J c.front,I J c.back,I J c.least] 57)).alloc (.cells #[I J 0,I J 0] 87)):=((Below.refl _ _).alloc (Nat.le_refl _) _).alloc (by simp) _
  exact ⟨HX2.out.1.trans (hb.mono HX2.out.1.size),by rw [hb.block _ (lt_block HX2.out.2.1)]; exact HX2.out.2.1,owned_below HX2.out.2.2.defs hb,owned_below HX2.out.2.2.subst hb,owned_below HX2.out.2.2.pieces hb⟩
 have HX4:Hid (((w2.alloc (.cells #[.string (bs c.letters),.slice da dn dc,.slice sa sn sc,.slice pa pn pc,I J c.mode,.bool c.banded,I J c.lo,I J c.hi,I J c.front,I J c.back,I J c.least] 57)).alloc (.cells #[I J 0,I J 0] 87)).heap[w2.heap.size]? = some (.cells #[.string (bs c.letters),.slice da dn dc,.slice sa sn sc,.slice pa pn pc,I J c.mode,.bool c.banded,I J c.lo,I J c.hi,I J c.front,I J c.back,I J c.least] 57 (0,0)) /\ ((w2.alloc (.cells #[.string (bs c.letters),.slice da dn dc,.slice sa sn sc,.slice pa pn pc,I J c.mode,.bool c.banded,I J c.lo,I J c.hi,I J c.front,I J c.back,I J c.least] 57)).alloc (.cells #[I J 0,I J 0] 87)).heap[w2.heap.size + 1]? = some (.cells #[I J 0,I J 0] 87 (0,0))):=⟨heap_old (heap_alloc_new w2 _),by
  have:=heap_alloc_new (w2.alloc (.cells #[.string (bs c.letters),.slice da dn dc,.slice sa sn sc,.slice pa pn pc,I J c.mode,.bool c.banded,I J c.lo,I J c.hi,I J c.front,I J c.back,I J c.least] 57)) (.cells #[I J 0,I J 0] 87)
  rw [show (w2.alloc (.cells #[.string (bs c.letters),.slice da dn dc,.slice sa sn sc,.slice pa pn pc,I J c.mode,.bool c.banded,I J c.lo,I J c.hi,I J c.front,I J c.back,I J c.least] 57)).heap.size = w2.heap.size + 1 by simp] at this
  exact this⟩
 have hl2:w.heap.size < w2.heap.size:=lt_block HX2.out.2.1
 clear HX2
 go_upto_region 5 with (fail)
 generalize (w2.alloc (.cells #[.string (bs c.letters),.slice da dn dc,.slice sa sn sc,.slice pa pn pc,I J c.mode,.bool c.banded,I J c.lo,I J c.hi,I J c.front,I J c.back,I J c.least] 57)).alloc (.cells #[I J 0,I J 0] 87) = W at *
 obtain ⟨r0,r1,r2,r3,r4,r5,r6,r7,r8,r9,r10⟩:=c11 HX3.out.2.1
 obtain ⟨q0,q1,q2,q3,q4,q5,q6,q7,q8,q9,q10⟩:=c11 HX4.out.1
 have f0:W.cell? ⟨w2.heap.size + 1,0,none⟩ = some (I J 0):=blk HX4.out.2 rfl
 have rf:=fun i=>blkf (w:=W) (g:=w.heap.size) i HX3.out.2.1
 obtain ⟨bl,hbl⟩:∃ bl,bl = bs c.letters:=⟨_,rfl⟩
 rw [<- hbl] at HE q0 ⊢
 clear hbl HX4
 go_wp2_with fail
 go_region
 all_goals (
  go_wp2
  refine bodyPost_ret (v:=.tuple #[.agg #[.string bl,.slice da dn dc,.slice sa sn sc,.slice pa pn pc,I J c.mode,.bool c.banded,I J c.lo,I J c.hi,I J c.front,I J c.back,I J c.least],.bool true]) ?_ rfl ?_
  ·simp only [results,hres]
   go_simp
  ·exact ⟨s,by rw [HE.out],sch11 HX3.out (Nat.le_refl _) _ _ _ _ _ _ _ _ _ _ _⟩)
theorem okA_all {c:Ck} (h:okA c = true):CkFit c /\ rightS (scOf c) = true /\ (lowB (scOf c)).defs.all inRb = true /\ ((lowB (scOf c)).defs.length <= 100 /\ (lowB (scOf c)).subst.length <= 100 /\ (lowB (scOf c)).states.length <= 100) /\ evalE (lowB (scOf c)) [0,1,2,3] [0,2,3] = ((1,0,0,[77,68,77,77]),0) /\ valueE (lowB (scOf c)) [0,1,2,3] [0,2,3] 1 1 0 = (-5,true,0):=by
 unfold okA at h
 simp only [Bool.and_eq_true,decide_eq_true_eq] at h
 obtain ⟨h1,h2,h3,h4,h5,h6,h7,h8,h9,h10,h11,h12⟩:=h
 exact ⟨⟨by unfold maxLen; omega,by unfold maxLen; omega,by unfold maxLen; omega,by unfold maxLen; omega,inRb_all h5⟩,h6,h7,⟨h8,h9,h10⟩,h11,h12⟩
theorem scoreE_zero:scoreE ⟨0,[],[],0,0,0,0,false,0,0,[]⟩ [] [] = (0,120):=by kernel_rfl
theorem rcAt_zero (w:World):RcAt w ⟨0,[],[],0,0,0,0,false,0,0,[]⟩ none 0 none 0 none 0:=
 ⟨⟨rfl,by decide,nofun,nofun⟩,⟨rfl,by decide,nofun⟩,⟨rfl,by decide,nofun⟩⟩
theorem pair_new {W0 W:World} {cs:Array Value} {g g1 g2:Nat} {ty:TypeId} (hb:Below W0.heap.size W0 W) (hq:W.heap[g]? = some (.cells cs ty (0,0))) (h1:g1 = W.heap.size) (h2:g2 = W.heap.size + 1) :
 Below W0.heap.size W0 ((W.alloc (.cells #[I J 0,I J 1,I J 2,I J 3] 3)).alloc (.cells #[I J 0,I J 2,I J 3] 3)) /\ ((W.alloc (.cells #[I J 0,I J 1,I J 2,I J 3] 3)).alloc (.cells #[I J 0,I J 2,I J 3] 3)).heap[g]? = some (.cells cs ty (0,0)) /\ IntA ((W.alloc (.cells #[I J 0,I J 1,I J 2,I J 3] 3)).alloc (.cells #[I J 0,I J 2,I J 3] 3)) (some ⟨g1,0,none⟩) 4 [0,1,2,3] /\ IntA ((W.alloc (.cells #[I J 0,I J 1,I J 2,I J 3] 3)).alloc (.cells #[I J 0,I J 2,I J 3] 3)) (some ⟨g2,0,none⟩) 3 [0,2,3]:=by
 have hB:Below (W.alloc (.cells (itRow [0,1,2,3]).toArray 3)).heap.size _ ((W.alloc (.cells #[I J 0,I J 1,I J 2,I J 3] 3)).alloc (.cells #[I J 0,I J 2,I J 3] 3)):=(Below.refl _ _).alloc (Nat.le_refl _) _
 have h0:=hb.size
 exact ⟨(hb.alloc h0 _).alloc (by simp; omega) _,heap_old (heap_old hq),(intA_new h1 (l:=[0,1,2,3]) (by decide)).below hB,intA_new (W:=W.alloc (.cells (itRow [0,1,2,3]).toArray 3)) (l:=[0,2,3]) (by rw [h2]; simp) (by decide)⟩
theorem awakeE_calls (w:World):Calls Tryz.prog 7 #[] w fun e w'=>e = .returned (.bool true) /\ Below w.heap.size w w':=by
 obtain ⟨c,hc0,hc1,hok⟩:=srcE_check
 obtain ⟨hf,hr,hd,⟨hl1,hl2,hl3⟩,hev,hva⟩:=okA_all hok
 have HP1:Hid (∀ W,Calls Tryz.prog 15 #[.string ⟨#[97,108,112,104,97,98,101,116,32,34,65,67,71,84,34,59,32,109,97,116,99,104,32,50,59,32,109,105,115,109,97,116,99,104,32,45,51,59,32,103,97,112,32,52,44,32,49,59,32,109,111,100,101,32,103,108,111,98,97,108,59]⟩] W fun e w'=>∃ s,e = .returned (.tuple #[schV c s,.bool true]) /\ SchAt w' c s /\ Below W.heap.size W w'):=fun W=>schemeE_calls c hf ⟨hc0,hc1⟩ W
 have HF:Hid (CkFit c /\ rightS (scOf c) = true):=⟨hf,hr⟩
 clear hc0 hc1 hok hf hr
 go_enter Tryz.func7,Tryz.ntmps7
 go_wp2_with fail
 refine (HP1.out w).mono ?_
 rintro e w1 ⟨s,rfl,hs1,hb1⟩
 obtain ⟨da,dc,sa,sc,pa,pc,es,hsc⟩:=sch_sc hs1 HF.out.1
 have HS1:Hid (ScAt w1 (scOf c) da c.defs.length sa c.subst.length pa c.pieces.length /\ Below w.heap.size w w1):=⟨hsc,hb1⟩
 have HL:Hid (∀ W,Below w1.heap.size w1 W -> Calls Tryz.prog 16 #[.agg #[.string (bs c.letters),.slice da c.defs.length dc,.slice sa c.subst.length sc,.slice pa c.pieces.length pc,I J c.mode,.bool c.banded,I J c.lo,I J c.hi,I J c.front,I J c.back,I J c.least]] W fun e w'=>∃ xa xn xc ua un uc ta tn tc,e = .returned (.tuple #[.agg (rcCells (lowB (scOf c)) xa xn xc ua un uc ta tn tc),I J 0]) /\ Below W.heap.size W w' /\ RcAt w' (lowB (scOf c)) xa xn ua un ta tn):=fun W hW=>by
  refine (lower_calls (scOf c) da c.defs.length dc sa c.subst.length sc pa c.pieces.length pc W (hsc.below hW)).mono ?_
  intro e w3 hp
  unfold LowPost at hp
  rw [HF.out.2,if_pos rfl] at hp
  obtain ⟨xa,xn,xc,ua,un,uc,ta,tn,tc,rfl,hb3,hown⟩:=hp
  exact ⟨xa,xn,xc,ua,un,uc,ta,tn,tc,rfl,hb3,rcown_at hown hd hl1 hl2 hl3⟩
 rw [es]
 clear hs1 hb1 es hsc HP1 HF
 unfold scCells scOf
 simp only
 have HB2:Hid (Below w1.heap.size w1 (w1.alloc (.cells #[.string (bs c.letters),.slice da c.defs.length dc,.slice sa c.subst.length sc,.slice pa c.pieces.length pc,I J c.mode,.bool c.banded,I J c.lo,I J c.hi,I J c.front,I J c.back,I J c.least] 57))):=(Below.refl _ _).alloc (Nat.le_refl _) _
 go_wp2_with fail
 refine (HL.out _ HB2.out).mono ?_
 rintro e w2 ⟨xa,xn,xc,ua,un,uc,ta,tn,tc,rfl,hb2,hat⟩
 have HS2:Hid (RcAt w2 (lowB (scOf c)) xa xn ua un ta tn /\ Below w.heap.size w w2):=⟨hat,HS1.out.2.trans ((HB2.out.trans (hb2.mono HB2.out.size)).mono HS1.out.2.size)⟩
 clear hb2 hat HL HB2 HS1 hd hl1 hl2 hl3
 have HV:Hid (evalE (lowB (scOf c)) [0,1,2,3] [0,2,3] = ((1,0,0,[77,68,77,77]),0) /\ valueE (lowB (scOf c)) [0,1,2,3] [0,2,3] 1 1 0 = (-5,true,0)):=⟨hev,hva⟩
 clear hev hva
 generalize lowB (scOf c) = X at *
 have HE:Hid (∀ W g1 g2,Below w2.heap.size w2 W -> IntA W (some ⟨g1,0,none⟩) 4 [0,1,2,3] -> IntA W (some ⟨g2,0,none⟩) 3 [0,2,3] -> Calls Tryz.prog 14 #[.agg #[I J X.letters,.slice xa xn xc,.slice ua un uc,I J X.beg,I J X.fin,I J X.front,I J X.back,.bool X.banded,I J X.lo,I J X.hi,.slice ta tn tc],.slice (some ⟨g1,0,none⟩) 4 4,.slice (some ⟨g2,0,none⟩) 3 3] W fun e w'=>e = .returned (.tuple #[.agg #[I J 1,I J 0,I J 0,.string ⟨#[77,68,77,77]⟩],I J 0]) /\ Below W.heap.size W w'):=fun W g1 g2 hW h1 h2=>by
  have:=eval_calls X ⟨xa,xn,xc⟩ ⟨ua,un,uc⟩ ⟨ta,tn,tc⟩ ⟨some ⟨g1,0,none⟩,4,4⟩ ⟨some ⟨g2,0,none⟩,3,3⟩ _ _ W (HS2.out.1.below hW) h1 h2
  rw [HV.out.1] at this
  exact this
 have HU:Hid (∀ W g1 g2,Below w2.heap.size w2 W -> IntA W (some ⟨g1,0,none⟩) 4 [0,1,2,3] -> IntA W (some ⟨g2,0,none⟩) 3 [0,2,3] -> Calls Tryz.prog 8 #[.agg #[I J X.letters,.slice xa xn xc,.slice ua un uc,I J X.beg,I J X.fin,I J X.front,I J X.back,.bool X.banded,I J X.lo,I J X.hi,.slice ta tn tc],.slice (some ⟨g1,0,none⟩) 4 4,.slice (some ⟨g2,0,none⟩) 3 3,I J 1,I J 1,I J 0] W fun e w'=>e = .returned (.tuple #[I J (-5),.bool true,I J 0]) /\ Below W.heap.size W w'):=fun W g1 g2 hW h1 h2=>by
  have:=valueX_calls X ⟨xa,xn,xc⟩ ⟨ua,un,uc⟩ ⟨ta,tn,tc⟩ ⟨some ⟨g1,0,none⟩,4,4⟩ ⟨some ⟨g2,0,none⟩,3,3⟩ _ _ 1 1 0 W (HS2.out.1.below hW) h1 h2 (Nat.le_refl 4) (Nat.le_refl 3)
  rw [HV.out.2] at this
  exact this
 have HZ:Hid (∀ W,Calls Tryz.prog 10 #[.agg #[I J 0,.slice none 0 0,.slice none 0 0,I J 0,I J 0,I J 0,I J 0,.bool false,I J 0,I J 0,.slice none 0 0],.slice none 0 0,.slice none 0 0] W fun e w'=>e = .returned (.tuple #[I J 0,I J 120]) /\ Below W.heap.size W w'):=fun W=>by
  have:=scoreX_calls ⟨0,[],[],0,0,0,0,false,0,0,[]⟩ ⟨none,0,0⟩ ⟨none,0,0⟩ ⟨none,0,0⟩ ⟨none,0,0⟩ ⟨none,0,0⟩ [] [] W (rcAt_zero W) ⟨rfl,by decide,nofun⟩ ⟨rfl,by decide,nofun⟩
  rw [scoreE_zero] at this
  exact this
 have HB2:Hid (Below w.heap.size w w2):=HS2.out.2
 have HT:=pair_new (g1:=w2.heap.size + 1) (g2:=w2.heap.size + 2) ((Below.refl w2.heap.size w2).alloc (Nat.le_refl _) (.cells #[I J X.letters,.slice xa xn xc,.slice ua un uc,I J X.beg,I J X.fin,I J X.front,I J X.back,.bool X.banded,I J X.lo,I J X.hi,.slice ta tn tc] 26)) (heap_alloc_new w2 (.cells #[I J X.letters,.slice xa xn xc,.slice ua un uc,I J X.beg,I J X.fin,I J X.front,I J X.back,.bool X.banded,I J X.lo,I J X.hi,.slice ta tn tc] 26)) (by simp) (by simp)
 have HT1:Hid _:=HT
 clear HV HS2 HT
 unfold rcCells
 go_wp2_with fail
 refine (HE.out _ _ _ HT1.out.1 HT1.out.2.2.1 HT1.out.2.2.2).mono ?_
 rintro e w3 ⟨rfl,hb3⟩
 have HT3:Hid (Below w2.heap.size w2 w3 /\ w3.heap[w2.heap.size]? = some (.cells #[I J X.letters,.slice xa xn xc,.slice ua un uc,I J X.beg,I J X.fin,I J X.front,I J X.back,.bool X.banded,I J X.lo,I J X.hi,.slice ta tn tc] 26 (0,0))):=⟨HT1.out.1.trans (hb3.mono HT1.out.1.size),by rw [hb3.block _ (lt_block HT1.out.2.1)]; exact HT1.out.2.1⟩
 clear hb3 HT1 HE
 obtain ⟨r0,r1,r2,r3,r4,r5,r6,r7,r8,r9,r10⟩:=c11 HT3.out.2
 have hl:=lt_block HT3.out.2
 have HT:=pair_new (g1:=w3.heap.size + 1) (g2:=w3.heap.size + 2) (HT3.out.1.alloc HT3.out.1.size (.cells #[I J 1,I J 0,I J 0,.string ⟨#[77,68,77,77]⟩] 49)) (heap_alloc_new w3 (.cells #[I J 1,I J 0,I J 0,.string ⟨#[77,68,77,77]⟩] 49)) (by simp) (by simp)
 have HT4:Hid _:=HT
 clear HT HT3
 go_wp2_with fail
 refine (HU.out _ _ _ HT4.out.1 HT4.out.2.2.1 HT4.out.2.2.2).mono ?_
 rintro e w4 ⟨rfl,hb4⟩
 have HT5:Hid (Below w2.heap.size w2 w4 /\ w4.heap[w3.heap.size]? = some (.cells #[I J 1,I J 0,I J 0,.string ⟨#[77,68,77,77]⟩] 49 (0,0))):=⟨HT4.out.1.trans (hb4.mono HT4.out.1.size),by rw [hb4.block _ (lt_block HT4.out.2.1)]; exact HT4.out.2.1⟩
 clear hb4 HT4 HU hl r0 r1 r2 r3 r4 r5 r6 r7 r8 r9 r10
 go_wp2_with fail
 refine (HZ.out _).mono ?_
 rintro e w5 ⟨rfl,hb5⟩
 have HT6:Hid (Below w.heap.size w w5 /\ w5.heap[w3.heap.size]? = some (.cells #[I J 1,I J 0,I J 0,.string ⟨#[77,68,77,77]⟩] 49 (0,0))):=⟨HB2.out.trans ((HT5.out.1.trans (hb5.mono HT5.out.1.size)).mono HB2.out.size),by rw [hb5.block _ (lt_block HT5.out.2)]; exact HT5.out.2⟩
 clear hb5 HT5 HZ HB2
 have f0:w5.cell? ⟨w3.heap.size,0,none⟩ = some (I J 1):=blk HT6.out.2 rfl
 have f1:w5.cell? ⟨w3.heap.size,1,none⟩ = some (I J 0):=blk HT6.out.2 rfl
 have f2:w5.cell? ⟨w3.heap.size,2,none⟩ = some (I J 0):=blk HT6.out.2 rfl
 have f3:w5.cell? ⟨w3.heap.size,3,none⟩ = some (.string ⟨#[77,68,77,77]⟩):=blk HT6.out.2 rfl
 go_wp2
 go_ret
 exact ⟨rfl,HT6.out.1⟩
end Go.Proofs.YtbbbnopganhebabGreat
