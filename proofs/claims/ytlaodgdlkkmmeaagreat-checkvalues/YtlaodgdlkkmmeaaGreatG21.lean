/-
  The walks of token, named, sign, text, first. The walks of text and first. The walk of first.
-/
import Derived.Test.YtlaodgdlkkmmeaaGreatG20
namespace Go.Proofs.YtlaodgdlkkmmeaaGreat
open Go.RowKit
open Go.Value renaming int->I,string->Ψ
open Go.IntKind renaming i64->J
open Go.Obj renaming cells->Δ
open Go.Ending renaming returned->Ω
set_option maxHeartbeats 1000000
theorem clone_calls (s:ByteArray) (w:World) (hs:s.size <= 4000) :
 Calls Tryz.prog 146 #[Ψ s] w fun e w'=>e = Ω (.string s) /\ Below w.heap.size w w':=by
 have HC:Hid (∀ w,Calls Tryz.prog 151 #[Ψ s] w fun e w'=>e = Ω (.string s) /\ Below w.heap.size w w'):=fun w=>Tryz.stringslite_Clone s w (by omega)
 clear hs
 go_enter Tryz.func146,Tryz.ntmps146
 go_wp2_with (go_at_call 151; refine (HC.out _).mono ?_; rintro e w1 ⟨rfl,hb⟩)
 go_ret
 exact ⟨rfl,hb⟩
theorem token_calls (k:Int) (s:ByteArray) (w:World) (hs:s.size <= 4000) :
 Calls Tryz.prog 132 #[I J k,Ψ s] w fun e w'=>e = Ω (.agg #[I J k,I J 0,Ψ s,I J 0]) /\ Below w.heap.size w w':=by
 have hres:Tryz.f132.results = #[.cell 4 124]:=by kernel_rfl
 have HC:Hid (∀ w,Calls Tryz.prog 146 #[Ψ s] w fun e w'=>e = Ω (.string s) /\ Below w.heap.size w w'):=fun w=>clone_calls s w hs
 clear hs
 go_enter Tryz.func132,Tryz.ntmps132
 go_wp2_with fail
 refine (HC.out _).mono ?_
 rintro e w1 ⟨rfl,hb1⟩
 have hans:w1.heap[w.heap.size]? = some (Δ zero4 124 (0,0)):=by rw [hb1.block _ (by simp)]; exact heap_alloc_new w _
 have HL:Hid (Below w.heap.size w w1):=below_box hb1
 obtain ⟨z0,z1,z2,z3,zf⟩:=block4 hans
 clear hb1 HC hans
 go_wp2
 refine bodyPost_ret (v:=.agg #[I J k,I J 0,Ψ s,I J 0]) ?_ rfl ⟨rfl,?_⟩
 ·simp only [results,hres]
  go_simp
 ·exact below4 HL.out (Nat.le_refl _) _ _ _ _
def signA (s:List UInt8):Int × Int × List UInt8 × Nat × Int:=(6,0,s,s.length,0)
theorem sign_calls (s:ByteArray) (w:World) (hs:s.size <= 4000) :
 Calls Tryz.prog 107 #[Ψ s] w fun e w'=>TokPost (signA s.data.toList) w e w':=by
 have hres:Tryz.f107.results = #[.cell 2 124,.tmp 3,.tmp 4]:=by kernel_rfl
 have HC:Hid (∀ k w,Calls Tryz.prog 132 #[I J k,Ψ s] w fun e w'=>e = Ω (.agg #[I J k,I J 0,Ψ s,I J 0]) /\ Below w.heap.size w w'):=fun k w=>token_calls k s w hs
 have HE:Hid (signA s.data.toList = (6,0,s.data.toList,s.size,0)):=by
  show _ = _
  unfold signA; rw [size_toList]
 clear hs
 go_enter Tryz.func107,Tryz.ntmps107
 go_wp2_with fail
 refine (HC.out _ _).mono ?_
 rintro e w1 ⟨rfl,hb1⟩
 have hans:w1.heap[w.heap.size]? = some (Δ zero4 124 (0,0)):=by rw [hb1.block _ (by simp)]; exact heap_alloc_new w _
 have HL:Hid (Below w.heap.size w w1):=below_box hb1
 obtain ⟨z0,z1,z2,z3,zf⟩:=block4 hans
 clear hb1 HC hans
 go_wp2
 refine bodyPost_ret (v:=.tuple #[.agg #[I J 6,I J 0,Ψ s,I J 0],I J s.size,I J 0]) ?_ rfl ?_
 ·simp only [results,hres]
  go_simp
 ·have h:=ret_tok HE.out (below4 HL.out (Nat.le_refl _) (I J 6) (I J 0) (.string s) (I J 0))
  rw [bs_of] at h
  exact h
def namA (s:List UInt8):Int × Int × List UInt8 × Nat × Int:=
 if wordB s then (4,0,s,s.length,0) else if nameB s then (3,0,s,s.length,0) else (0,0,[],0,62)
theorem named_calls (s:ByteArray) (w:World) (hs:s.size <= 4000) :
 Calls Tryz.prog 105 #[Ψ s] w fun e w'=>TokPost (namA s.data.toList) w e w':=by
 have hres:Tryz.f105.results = #[.cell 2 124,.tmp 3,.tmp 4]:=by kernel_rfl
 have HC:Hid (∀ k w,Calls Tryz.prog 132 #[I J k,Ψ s] w fun e w'=>e = Ω (.agg #[I J k,I J 0,Ψ s,I J 0]) /\ Below w.heap.size w w'):=fun k w=>token_calls k s w hs
 clear hs
 cases hw:wordB s.data.toList with
 | true=>
   have HW:Hid (∀ w,Calls Tryz.prog 120 #[Ψ s] w fun e w'=>e = Ω (.bool true) /\ w' = w):=fun w=>by
    have h:=isWord_calls s w
    rw [hw] at h; exact h
   have HE:Hid (namA s.data.toList = (4,0,s.data.toList,s.size,0)):=by
    show _ = _
    unfold namA; rw [size_toList,if_pos hw]
   clear hw
   go_enter Tryz.func105,Tryz.ntmps105
   go_wp2_with (go_at_call 120; refine (HW.out _).mono ?_; rintro e w' ⟨rfl,rfl⟩)
   refine (HC.out _ _).mono ?_
   rintro e w1 ⟨rfl,hb1⟩
   have hans:w1.heap[w.heap.size]? = some (Δ zero4 124 (0,0)):=by rw [hb1.block _ (by simp)]; exact heap_alloc_new w _
   have HL:Hid (Below w.heap.size w w1):=below_box hb1
   obtain ⟨z0,z1,z2,z3,zf⟩:=block4 hans
   clear hb1 HC hans
   go_wp2
   refine bodyPost_ret (v:=.tuple #[.agg #[I J 4,I J 0,Ψ s,I J 0],I J s.size,I J 0]) ?_ rfl ?_
   ·simp only [results,hres]
    go_simp
   ·have h:=ret_tok HE.out (below4 HL.out (Nat.le_refl _) (I J 4) (I J 0) (.string s) (I J 0))
    rw [bs_of] at h
    exact h
 | false=>
   have HW:Hid (∀ w,Calls Tryz.prog 120 #[Ψ s] w fun e w'=>e = Ω (.bool false) /\ w' = w):=fun w=>by
    have h:=isWord_calls s w
    rw [hw] at h; exact h
   cases hn:nameB s.data.toList with
   | true=>
     have HN:Hid (∀ w,Calls Tryz.prog 85 #[Ψ s] w fun e w'=>e = Ω (.bool true) /\ Below w.heap.size w w'):=fun w=>by
      have h:=isName_calls s w
      rw [hn] at h; exact h
     have HE:Hid (namA s.data.toList = (3,0,s.data.toList,s.size,0)):=by
      show _ = _
      unfold namA; rw [size_toList,if_neg (by rw [hw]; decide),if_pos hn]
     clear hw hn
     go_enter Tryz.func105,Tryz.ntmps105
     go_wp2_with (first
      | (go_at_call 120; refine (HW.out _).mono ?_; rintro e w' ⟨rfl,rfl⟩)
      | (go_at_call 85; refine (HN.out _).mono ?_; rintro e w1 ⟨rfl,hb0⟩))
     refine (HC.out _ _).mono ?_
     rintro e w2 ⟨rfl,hb1⟩
     have hb2:=hb0.trans (hb1.mono hb0.size)
     have hans:w2.heap[w.heap.size]? = some (Δ zero4 124 (0,0)):=by rw [hb2.block _ (by simp)]; exact heap_alloc_new w _
     have HL:Hid (Below w.heap.size w w2):=below_box hb2
     obtain ⟨z0,z1,z2,z3,zf⟩:=block4 hans
     clear hb0 hb1 hb2 HC hans
     go_wp2
     refine bodyPost_ret (v:=.tuple #[.agg #[I J 3,I J 0,Ψ s,I J 0],I J s.size,I J 0]) ?_ rfl ?_
     ·simp only [results,hres]
      go_simp
     ·have h:=ret_tok HE.out (below4 HL.out (Nat.le_refl _) (I J 3) (I J 0) (.string s) (I J 0))
      rw [bs_of] at h
      exact h
   | false=>
     have HN:Hid (∀ w,Calls Tryz.prog 85 #[Ψ s] w fun e w'=>e = Ω (.bool false) /\ Below w.heap.size w w'):=fun w=>by
      have h:=isName_calls s w
      rw [hn] at h; exact h
     have HE:Hid (namA s.data.toList = (0,0,[],0,62)):=by
      show _ = _
      unfold namA; rw [if_neg (by rw [hw]; decide),if_neg (by rw [hn]; decide)]
     clear hw hn HC
     go_enter Tryz.func105,Tryz.ntmps105
     go_wp2_with (go_at_call 120; refine (HW.out _).mono ?_; rintro e w' ⟨rfl,rfl⟩)
     refine (HN.out _).mono ?_
     rintro e w1 ⟨rfl,hb0⟩
     have hans:w1.heap[w.heap.size]? = some (Δ zero4 124 (0,0)):=by rw [hb0.block _ (by simp)]; exact heap_alloc_new w _
     have HL:Hid (Below w.heap.size w w1):=below_box hb0
     obtain ⟨z0,z1,z2,z3,zf⟩:=block4 hans
     clear hb0 hans
     go_wp2
     refine bodyPost_ret (v:=.tuple #[.agg #[I J 0,I J 0,Ψ ⟨#[]⟩,I J 0],I J 0,I J 62]) ?_ rfl (ret_wrong HE.out ?_)
     ·simp only [results,hres]
      go_simp
     ·exact below4 HL.out (Nat.le_refl _) _ _ _ _
set_option maxRecDepth 20000
set_option maxHeartbeats 2000000
theorem below_drewN {B:Nat} {a w:World} (h:Below B a w) (n:Nat):Below B a (w.drewN n):=h.trans ⟨rfl,rfl,rfl,Nat.le_refl _,fun _ _=>rfl⟩
theorem drewN_heap (w:World):∀ n,(w.drewN n).heap = w.heap
 | 0=>rfl
 | n + 1=>by show ((w.drewN n).drew).heap = _; rw [<- drewN_heap w n]; rfl
def textA (r:List UInt8):Int × Int × List UInt8 × Nat × Int:=
 if textOk r then (5,0,innerB r,(innerB r).length + 2,0) else (0,0,[],0,63)
theorem textA_no {r:List UInt8} (h:textOk r = false):textA r = (0,0,[],0,63):=by unfold textA; rw [if_neg (by rw [h]; decide)]
theorem all_step {p:UInt8 -> Bool} {S:List UInt8} {k:Nat} {c:UInt8} (h:S[k]? = some c) (ha:(S.take k).all p = true) (hc:p c = true):(S.take (k + 1)).all p = true:=by
 obtain ⟨hlt,he⟩:=List.getElem?_eq_some_iff.1 h
 rw [List.take_succ_eq_append_getElem hlt,he,List.all_append,ha]; simp [hc]
theorem all_no {p:UInt8 -> Bool} {S:List UInt8} {k:Nat} {c:UInt8} (h:S[k]? = some c) (hc:p c = false):S.all p = false:=by
 cases hx:S.all p with
 | false=>rfl
 | true=>rw [List.all_eq_true.1 hx c (List.mem_of_getElem? h)] at hc; cases hc
/-- The place of the answer, and of the look through a text behind it. -/
theorem numAt_behind {w w1:World} (s:ByteArray) (hl:Below w.heap.size w w1) (ha:w1.heap[w.heap.size]? = some (Δ zero4 124 (0,0))) (hz:w1.heap.size = w.heap.size + 1):NumAt w s 0 (w1.alloc (.stringIter s 0)):=by
 refine ⟨hl.alloc (by omega) _,?_,?_⟩
 ·have h:=(Below.refl w1.heap.size w1).alloc (Nat.le_refl _) (.stringIter s 0)
  rw [h.block _ (by omega)]; exact ha
 ·have h:=heap_alloc_new w1 (.stringIter s 0)
  rw [hz] at h; exact h
theorem text_calls (s:ByteArray) (w:World) (hs:s.size <= 4000) (hp:0 < s.size) :
 Calls Tryz.prog 106 #[Ψ s] w fun e w'=>TokPost (textA (s.data.toList.drop 1)) w e w':=by
 have hres:Tryz.f106.results = #[.cell 2 124,.tmp 3,.tmp 4]:=by kernel_rfl
 have hx:(s.extract 1 s.size).data.toList = s.data.toList.drop 1:=by
  rw [extract_list,List.take_of_length_le (by simp)]
 generalize hR:s.data.toList.drop 1 = R at *
 have hRl:R.length <= 3999:=by rw [<- hR,List.length_drop,size_toList]; omega
 have HC:Hid (∀ w,Calls Tryz.prog 133 #[Ψ (s.extract 1 s.size),Ψ ⟨#[34]⟩] w fun e w'=>CutPost (s.extract 1 s.size) 34 w e w'):=fun w=>cut_calls _ 34 w (by
  have h:=size_toList (s.extract 1 s.size)
  rw [hx] at h
  unfold maxLen; omega)
 have HX:=hid hx
 clear hx hR
 go_enter Tryz.func106,Tryz.ntmps106
 go_wp2_with fail
 refine (HC.out _).mono ?_
 rintro e w1 ⟨a,b,n,rfl,ha,hb,rfl⟩
 rw [HX.out] at ha hb ⊢
 clear hb
 have hal:a.data.toList = innerB R:=ha
 have hasz:a.size = (innerB R).length:=by rw [<- size_toList,hal]
 have hsm:a.size <= 3999:=by rw [hasz]; exact Nat.le_trans (innerB_le R) hRl
 have hans:((w.alloc (Δ zero4 124 (0,0))).drewN n).heap[w.heap.size]? = some (Δ zero4 124 (0,0)):=by rw [drewN_heap]; exact heap_alloc_new w _
 have hlow:Below w.heap.size w ((w.alloc (Δ zero4 124 (0,0))).drewN n):=below_drewN ((Below.refl _ _).alloc (Nat.le_refl _) _) n
 have hsz:((w.alloc (Δ zero4 124 (0,0))).drewN n).heap.size = w.heap.size + 1:=by rw [drewN_heap]; simp
 have e0:(w.alloc (Δ zero4 124 (0,0))).drewN n = (w.alloc (Δ #[I J 0,I J 0,Ψ ⟨#[]⟩,I J 0] 124 (0,0))).drewN n:=rfl
 rw [e0] at hans hlow hsz
 generalize (w.alloc (Δ #[I J 0,I J 0,Ψ ⟨#[]⟩,I J 0] 124 (0,0))).drewN n = W at *
 have HT:Hid (textOk R = (hasB 34 R && (decide (a.size <= 40) && a.data.toList.all inText))):=by
  show _ = _
  rw [hasz,hal]; rfl
 have HI:Hid (a.data.toList = innerB R):=hal
 clear ha hal e0 HC HX hasz
 by_cases hno:hasB 34 R = false \/ 40 < a.size
 ·have HE:Hid (textA R = (0,0,[],0,63)):=textA_no (by
   rw [HT.out]
   rcases hno with h | h
   ·rw [h]; rfl
   ·rw [show decide (a.size <= 40) = false by simp; omega]; simp)
  obtain ⟨z0,z1,z2,z3,zf⟩:=block4 hans
  have HL:Hid (Below w.heap.size w W):=hlow
  have hq:hasB 34 R = false \/ (hasB 34 R = true /\ decide ((40:Int) < (a.size:Int)) = true):=by
   cases hh:hasB 34 R with
   | false=>exact .inl rfl
   | true=>
     rw [hh] at hno
     exact .inr ⟨rfl,by simp at hno ⊢; omega⟩
  clear hno hans hlow HT
  generalize hasB 34 R = f at *
  rcases hq with rfl | ⟨rfl,h40⟩ <;> (
   go_wp2
   refine bodyPost_ret (v:=.tuple #[.agg #[I J 0,I J 0,Ψ ⟨#[]⟩,I J 0],I J 0,I J 63]) ?_ rfl (ret_wrong HE.out ?_)
   ·simp only [results,hres]
    go_simp
   ·exact below4 HL.out (Nat.le_refl _) _ _ _ _)
 have hyes:hasB 34 R = true /\ a.size <= 40:=by
  cases hh:hasB 34 R with
  | false=>exact absurd (.inl hh) hno
  | true=>exact ⟨rfl,by rw [hh] at hno; simp at hno; omega⟩
 have h40:decide ((40:Int) < (a.size:Int)) = false:=by simp; omega
 have HT2:Hid (textOk R = a.data.toList.all inText):=by
  show _ = _
  rw [HT.out,hyes.1,show decide (a.size <= 40) = true by simp; omega]; rfl
 have HZ:Hid (NumAt w a 0 (W.alloc (.stringIter a 0))):=numAt_behind a hlow hans hsz
 have hhas:=hyes.1
 clear hno hyes HT hlow hans
 generalize hasB 34 R = f at *
 subst hhas
 go_wp2
 go_loopw [] (fun wr=>∃ (pos:Nat),pos <= a.size /\ (a.data.toList.take pos).all inText = true /\ NumAt w a pos wr) (fun wr=>a.size - wr.iterPos (w.heap.size + 1))
 case atStart=>exact ⟨0,Nat.zero_le _,by simp,HZ.out⟩
 case round=>
  obtain ⟨pos,hp0,hr,hat⟩:=hrel
  have HR:=hid hr
  have hpos0:=iterPos_of hat.iter
  clear hr HZ
  by_cases hp:pos < a.size
  ·obtain ⟨x,d,hnx,hd1,hd2,hx⟩:=next_rune wr (w.heap.size + 1) a pos hat.iter hp
   have HG:Hid (a.data.toList[pos]? = some a[pos]):=getElem?_at a pos hp
   have hat2:=hat.step (pos + d)
   obtain ⟨W1,hW1⟩:∃ W1,W1 = wr.iterAt (w.heap.size + 1) a (pos + d):=⟨_,rfl⟩
   rw [<- hW1] at hnx hat2
   clear hW1 hat
   obtain ⟨z0,z1,z2,z3,zf⟩:=block4 hat2.ans
   have HL:Hid (Below w.heap.size w W1):=hat2.low
   have hin:inText a[pos] = true ↔ 32 <= x /\ x <= 126:=by
    simp only [inText,Bool.and_eq_true,decide_eq_true_eq]
    rcases hx with ⟨h,_⟩ | ⟨h1,h2,_⟩ <;> omega
   cases hc:inText a[pos] with
   | false=>
     have HE:Hid (textA R = (0,0,[],0,63)):=textA_no (by rw [HT2.out,all_no HG.out hc])
     have hq:decide (x < 32) = true \/ (decide (x < 32) = false /\ decide ((126:Int) < x) = true):=by
      rw [hc] at hin
      simp at hin ⊢
      omega
     clear hin hx hc HG hat2 HR HT2
     rcases hq with h1 | ⟨h1,h2⟩ <;> (
      go_wp2
      refine bodyPost_ret (v:=.tuple #[.agg #[I J 0,I J 0,Ψ ⟨#[]⟩,I J 0],I J 0,I J 63]) ?_ rfl (ret_wrong HE.out ?_)
      ·simp only [results,hres]
       go_simp
      ·exact below4 HL.out (Nat.le_refl _) _ _ _ _)
   | true=>
     have hr:=hin.1 hc
     have h1:decide (x < 32) = false:=by simp; omega
     have h2:decide ((126:Int) < x) = false:=by simp; omega
     obtain rfl:d = 1:=by
      rcases hx with ⟨_,h,_⟩ | ⟨h,_,_⟩
      ·exact h
      ·omega
     have HS:Hid ((a.data.toList.take (pos + 1)).all inText = true):=all_step HG.out HR.out hc
     have HA:Hid (NumAt w a (pos + 1) W1):=hat2
     clear hin hx hc HG hat2 HR HT2 hr z0 z1 z2 z3 zf
     go_wp2
     go_roundw
     case rel=>exact ⟨pos + 1,by omega,HS.out,HA.out⟩
     case measure=>rw [iterPos_of HA.out.iter,hpos0]; omega
  ·have hnx:∀ ty,(Instr.next (.pointer (some ⟨w.heap.size + 1,0,none⟩)) true ty).run Tryz.prog wr = _:=fun ty=>Lib.run_next_end_at wr (w.heap.size + 1) a pos ty hat.iter hp
   have HE:Hid (textA R = (5,0,a.data.toList,a.size + 2,0)):=by
    have h:=HR.out
    rw [List.take_of_length_le (by rw [size_toList]; omega)] at h
    show _ = _
    unfold textA
    rw [if_pos (by rw [HT2.out,h]),<- HI.out,size_toList]
   have HK:Hid (∀ w,Calls Tryz.prog 132 #[I J 5,Ψ a] w fun e w'=>e = .returned (.agg #[I J 5,I J 0,Ψ a,I J 0]) /\ Below w.heap.size w w'):=fun w=>token_calls 5 a w (by omega)
   have hat':=hat
   clear hat HT2 HR
   go_wp2_with fail
   refine (HK.out _).mono ?_
   rintro e w2 ⟨rfl,hb2⟩
   obtain ⟨z0,z1,z2,z3,zf⟩:=block4 (keepB hat'.ans hb2)
   have HL:Hid (Below w.heap.size w w2):=hat'.low.trans (hb2.mono hat'.low.size)
   clear hat' hb2 HK hnx
   go_wp2
   refine bodyPost_ret (v:=.tuple #[.agg #[I J 5,I J 0,Ψ a,I J 0],I J ((a.size + 2:Nat):Int),I J 0]) ?_ rfl ?_
   ·simp only [results,hres]
    go_simp
   ·have h:=ret_tok HE.out (below4 HL.out (Nat.le_refl _) (I J 5) (I J 0) (.string a) (I J 0))
    rw [bs_of] at h
    exact h
set_option maxRecDepth 20000
set_option maxHeartbeats 4000000
def firstA (s:List UInt8):Int × Int × List UInt8 × Nat × Int:=
 if errB s = 0 then (kindB s,(numB s:Int),textB s,lenB s,0) else (0,0,[],0,errB s)
section
variable {c:UInt8} {r:List UInt8}
theorem first_dig (h:isDig c = true):firstA (c :: r) = numA (runB (c :: r)):=by
 have hp:=dig_part h
 unfold firstA numA
 simp only [errB,kindB,numB,textB,lenB,h,hp,if_true]
 cases numO (runB (c :: r)) with
 | none=>simp
 | some n=>simp
theorem first_part (hd:isDig c = false) (h:isPart c = true):firstA (c :: r) = namA (runB (c :: r)):=by
 unfold firstA namA
 simp only [errB,kindB,numB,textB,lenB,hd,h,if_true]
 cases wordB (runB (c :: r)) <;> cases nameB (runB (c :: r)) <;> simp
theorem quote_no:isDig 34 = false /\ isPart 34 = false:=by decide
theorem first_quote:firstA (34 :: r) = textA r:=by
 unfold firstA textA
 simp only [errB,kindB,numB,textB,lenB,quote_no.1,quote_no.2]
 cases textOk r <;> simp
theorem first_mark (hd:isPart c = false) (hq:c ≠ 34) (h:isMark c = true):firstA (c :: r) = signA [c]:=by
 have hg:isDig c = false:=by
  cases hx:isDig c with
  | false=>rfl
  | true=>rw [dig_part hx] at hd; cases hd
 unfold firstA signA
 simp [errB,kindB,numB,textB,lenB,hd,hg,hq,h]
theorem point_no:isDig 46 = false /\ isPart 46 = false /\ isMark 46 = false:=by decide
theorem first_points:firstA (46 :: 46 :: r) = signA [46,46]:=by
 unfold firstA signA
 simp [errB,kindB,numB,textB,lenB,point_no]
theorem first_point (h:r.head? ≠ some 46):firstA (46 :: r) = (0,0,[],0,60):=by
 unfold firstA
 simp [errB,point_no,h]
theorem first_stray (hp:isPart c = false) (hq:c ≠ 34) (hm:isMark c = false) (hd:c ≠ 46):firstA (c :: r) = (0,0,[],0,60):=by
 have hg:isDig c = false:=by
  cases hx:isDig c with
  | false=>rfl
  | true=>rw [dig_part hx] at hp; cases hp
 unfold firstA
 simp [errB,hg,hp,hq,hm,hd]
end
theorem prefix_points (c:UInt8) (r:List UInt8) (h:c = 46):Lib.hasPrefix (c :: r) [46,46] = decide (r.head? = some 46):=by
 subst h
 cases r with
 | nil=>rfl
 | cons d r=>
   by_cases h2:d = 46
   ·subst h2; simp [Lib.hasPrefix,List.isPrefixOf]
   ·simp [Lib.hasPrefix,List.isPrefixOf,h2,Ne.symm h2]
theorem first_calls (s:ByteArray) (w:World) (hs:s.size <= 4000) (hp:0 < s.size) :
 Calls Tryz.prog 73 #[Ψ s] w fun e w'=>TokPost (firstA s.data.toList) w e w':=by
 have hres:Tryz.f73.results = #[.cell 2 124,.tmp 3,.tmp 4]:=by kernel_rfl
 have hS:s.data.toList = s[0] :: s.data.toList.drop 1:=by
  have:=drop_at (getElem?_at s 0 hp)
  simpa using this
 have hu8:=UInt8.toNat_lt s[0]
 have HC:Hid (∀ w,Calls Tryz.prog 102 #[.int .i32 (s[0].toNat:Int)] w fun e w'=>e = Ω (I J (clsB s[0])) /\ w' = w):=fun w=>class_calls _ w
 have hrn:(runB s.data.toList).length <= s.size:=by rw [<- size_toList]; exact runB_le _
 have HR:Hid (∀ w,Calls Tryz.prog 104 #[Ψ s] w fun e w'=>e = Ω (I J ((runB s.data.toList).length:Int)) /\ Below w.heap.size w w'):=fun w=>run_calls s w
 have hrx:(s.extract 0 (runB s.data.toList).length).data.toList = runB s.data.toList:=by
  rw [extract_list,List.drop_zero,runB_take]
 have hrz:(s.extract 0 (runB s.data.toList).length).size = (runB s.data.toList).length:=by rw [<- size_toList,hrx]
 have HN:Hid (∀ w,Calls Tryz.prog 103 #[Ψ (s.extract 0 (runB s.data.toList).length)] w fun e w'=>TokPost (numA (runB s.data.toList)) w e w'):=fun w=>by
  have h:=number_calls (s.extract 0 (runB s.data.toList).length) w
  rw [hrx] at h; exact h
 have HM:Hid (∀ w,Calls Tryz.prog 105 #[Ψ (s.extract 0 (runB s.data.toList).length)] w fun e w'=>TokPost (namA (runB s.data.toList)) w e w'):=fun w=>by
  have h:=named_calls (s.extract 0 (runB s.data.toList).length) w (by rw [hrz]; omega)
  rw [hrx] at h; exact h
 have HT:Hid (∀ w,Calls Tryz.prog 106 #[Ψ s] w fun e w'=>TokPost (textA (s.data.toList.drop 1)) w e w'):=fun w=>text_calls s w hs hp
 have HG1:Hid (∀ w,Calls Tryz.prog 107 #[Ψ (s.extract 0 1)] w fun e w'=>TokPost (signA [s[0]]) w e w'):=fun w=>by
  have hx:(s.extract 0 1).data.toList = [s[0]]:=by rw [extract_list,List.drop_zero,hS]; rfl
  have h:=sign_calls (s.extract 0 1) w (by rw [<- size_toList,hx]; simp)
  rw [hx] at h; exact h
 cases hpt:isPart s[0] with
 | true=>
   cases hdg:isDig s[0] with
   | true=>
     have HE:Hid (firstA s.data.toList = numA (runB s.data.toList)):=by
      show _ = _
      rw [hS]; exact first_dig hdg
     have hk:(clsB s[0] == 3) = true:=by rw [beq_iff_eq,cls_dig]; exact hdg
     clear hS hrx hrz HM HT HG1  hpt hdg
     generalize numA (runB s.data.toList) = A at *
     generalize firstA s.data.toList = F at *
     generalize (runB s.data.toList).length = n at *
     generalize clsB s[0] = kx at *
     go_enter Tryz.func73,Tryz.ntmps73
     go_wp2_with (go_at_call 102; refine (HC.out _).mono ?_; rintro e w' ⟨rfl,rfl⟩)
     refine (HR.out _).mono ?_
     rintro e w1 ⟨rfl,hb1⟩
     go_wp2_with fail
     refine (HN.out _).mono ?_
     rintro e w2 ⟨rfl,hb2⟩
     have hb3:=hb1.trans (hb2.mono hb1.size)
     have hans:w2.heap[w.heap.size]? = some (Δ zero4 124 (0,0)):=by rw [hb3.block _ (by simp)]; exact heap_alloc_new w _
     have HL:Hid (Below w.heap.size w w2):=below_box hb3
     obtain ⟨z0,z1,z2,z3,zf⟩:=block4 hans
     clear hb1 hb2 hb3 hans HC HR HN
     go_wp2
     refine bodyPost_ret (v:=.tuple #[.agg #[I J A.1,I J A.2.1,Ψ (bs A.2.2.1),I J 0],I J (A.2.2.2.1:Int),I J A.2.2.2.2]) ?_ rfl ?_
     ·simp only [results,hres]
      go_simp
     ·rw [HE.out]
      exact ⟨rfl,below4 HL.out (Nat.le_refl _) _ _ _ _⟩
   | false=>
     have HE:Hid (firstA s.data.toList = namA (runB s.data.toList)):=by
      show _ = _
      rw [hS]; exact first_part hdg hpt
     have hk3:(clsB s[0] == 3) = false:=by rw [beq_eq_false_iff_ne,ne_eq,cls_dig,hdg]; decide
     have hk:(clsB s[0] == 4) = true \/ ((clsB s[0] == 4) = false /\ (clsB s[0] == 5) = true) \/ ((clsB s[0] == 4) = false /\ (clsB s[0] == 5) = false /\ (clsB s[0] == 6) = true):=by
      have h1:=(cls_part s[0]).1 hpt
      simp only [beq_iff_eq,beq_eq_false_iff_ne,ne_eq] at hk3 ⊢
      omega
     clear hS hrx hrz HN HT HG1 hpt hdg
     generalize namA (runB s.data.toList) = A at *
     generalize firstA s.data.toList = F at *
     generalize (runB s.data.toList).length = n at *
     generalize clsB s[0] = kx at *
     rcases hk with h4 | ⟨h4,h5⟩ | ⟨h4,h5,h6⟩ <;> (
      go_enter Tryz.func73,Tryz.ntmps73
      go_wp2_with (go_at_call 102; refine (HC.out _).mono ?_; rintro e w' ⟨rfl,rfl⟩)
      refine (HR.out _).mono ?_
      rintro e w1 ⟨rfl,hb1⟩
      go_wp2_with fail
      refine (HM.out _).mono ?_
      rintro e w2 ⟨rfl,hb2⟩
      have hb3:=hb1.trans (hb2.mono hb1.size)
      have hans:w2.heap[w.heap.size]? = some (Δ zero4 124 (0,0)):=by rw [hb3.block _ (by simp)]; exact heap_alloc_new w _
      have HL:Hid (Below w.heap.size w w2):=below_box hb3
      obtain ⟨z0,z1,z2,z3,zf⟩:=block4 hans
      clear hb1 hb2 hb3 hans HC HR HM
      go_wp2
      refine bodyPost_ret (v:=.tuple #[.agg #[I J A.1,I J A.2.1,Ψ (bs A.2.2.1),I J 0],I J (A.2.2.2.1:Int),I J A.2.2.2.2]) ?_ rfl ?_
      ·simp only [results,hres]
       go_simp
      ·rw [HE.out]
       exact ⟨rfl,below4 HL.out (Nat.le_refl _) _ _ _ _⟩)
 | false=>
   have hnp:¬ (clsB s[0] = 4 \/ clsB s[0] = 5 \/ clsB s[0] = 3 \/ clsB s[0] = 6):=by rw [<- cls_part,hpt]; decide
   have hk3:(clsB s[0] == 3) = false:=by rw [beq_eq_false_iff_ne]; omega
   have hk4:(clsB s[0] == 4) = false:=by rw [beq_eq_false_iff_ne]; omega
   have hk5:(clsB s[0] == 5) = false:=by rw [beq_eq_false_iff_ne]; omega
   have hk6:(clsB s[0] == 6) = false:=by rw [beq_eq_false_iff_ne]; omega
   clear hnp hrx hrz HN HM HR hrn
   by_cases hq:s[0] = 34
   ·have hk7:(clsB s[0] == 7) = true:=by rw [beq_iff_eq,cls_quote]; exact hq
    have HE:Hid (firstA s.data.toList = textA (s.data.toList.drop 1)):=by
     show _ = _
     conv=>lhs; rw [hS,hq]
     exact first_quote
    clear hS HG1 hpt hq
    generalize textA (s.data.toList.drop 1) = A at *
    generalize firstA s.data.toList = F at *
    generalize clsB s[0] = kx at *
    go_enter Tryz.func73,Tryz.ntmps73
    go_wp2_with (go_at_call 102; refine (HC.out _).mono ?_; rintro e w' ⟨rfl,rfl⟩)
    refine (HT.out _).mono ?_
    rintro e w2 ⟨rfl,hb3⟩
    have hans:w2.heap[w.heap.size]? = some (Δ zero4 124 (0,0)):=by rw [hb3.block _ (by simp)]; exact heap_alloc_new w _
    have HL:Hid (Below w.heap.size w w2):=below_box hb3
    obtain ⟨z0,z1,z2,z3,zf⟩:=block4 hans
    clear hb3 hans HC
    go_wp2
    refine bodyPost_ret (v:=.tuple #[.agg #[I J A.1,I J A.2.1,Ψ (bs A.2.2.1),I J 0],I J (A.2.2.2.1:Int),I J A.2.2.2.2]) ?_ rfl ?_
    ·simp only [results,hres]
     go_simp
    ·rw [HE.out]
     exact ⟨rfl,below4 HL.out (Nat.le_refl _) _ _ _ _⟩
   have hk7:(clsB s[0] == 7) = false:=by rw [beq_eq_false_iff_ne,ne_eq,cls_quote]; exact hq
   clear HT
   cases hm:isMark s[0] with
   | true=>
     have hk8:(clsB s[0] == 8) = true:=by rw [beq_iff_eq,cls_mark]; exact hm
     have HE:Hid (firstA s.data.toList = signA [s[0]]):=by
      show _ = _
      rw [hS]; exact first_mark hpt hq hm
     clear hS hpt hq hm
     generalize signA [s[0]] = A at *
     generalize firstA s.data.toList = F at *
     generalize clsB s[0] = kx at *
     go_enter Tryz.func73,Tryz.ntmps73
     go_wp2_with (go_at_call 102; refine (HC.out _).mono ?_; rintro e w' ⟨rfl,rfl⟩)
     refine (HG1.out _).mono ?_
     rintro e w2 ⟨rfl,hb3⟩
     have hans:w2.heap[w.heap.size]? = some (Δ zero4 124 (0,0)):=by rw [hb3.block _ (by simp)]; exact heap_alloc_new w _
     have HL:Hid (Below w.heap.size w w2):=below_box hb3
     obtain ⟨z0,z1,z2,z3,zf⟩:=block4 hans
     clear hb3 hans HC
     go_wp2
     refine bodyPost_ret (v:=.tuple #[.agg #[I J A.1,I J A.2.1,Ψ (bs A.2.2.1),I J 0],I J (A.2.2.2.1:Int),I J A.2.2.2.2]) ?_ rfl ?_
     ·simp only [results,hres]
      go_simp
     ·rw [HE.out]
      exact ⟨rfl,below4 HL.out (Nat.le_refl _) _ _ _ _⟩
   | false=>
     have hk8:(clsB s[0] == 8) = false:=by rw [beq_eq_false_iff_ne,ne_eq,cls_mark,hm]; decide
     clear HG1
     by_cases hpo:s[0] = 46
     ·have hk9:(clsB s[0] == 9) = true:=by rw [beq_iff_eq,cls_point]; exact hpo
      have HP:Hid (∀ w,Calls Tryz.prog 108 #[Ψ s,Ψ ⟨#[46,46]⟩] w fun e w'=>e = Ω (.bool (decide ((s.data.toList.drop 1).head? = some 46))) /\ w' = w):=fun w=>by
       have h:=Tryz.strings_HasPrefix s ⟨#[46,46]⟩ w
       have e:Lib.hasPrefix s.data.toList (⟨#[46,46]⟩:ByteArray).data.toList = decide ((s.data.toList.drop 1).head? = some 46):=by
        conv=>lhs; rw [hS]
        exact prefix_points _ _ hpo
       rw [e] at h; exact h
      by_cases h2:(s.data.toList.drop 1).head? = some 46
      ·have h2s:2 <= s.size:=by
        cases hd:s.data.toList.drop 1 with
        | nil=>rw [hd] at h2; cases h2
        | cons d t=>
          have:=congrArg List.length hd
          rw [List.length_drop,size_toList,List.length_cons] at this
          omega
       have hx2:(s.extract 0 2).data.toList = [46,46]:=by
        rw [extract_list,List.drop_zero,hS,hpo]
        cases hd:s.data.toList.drop 1 with
        | nil=>rw [hd] at h2; cases h2
        | cons d t=>rw [hd] at h2; simp at h2; subst h2; rfl
       have HG2:Hid (∀ w,Calls Tryz.prog 107 #[Ψ (s.extract 0 2)] w fun e w'=>TokPost (signA [46,46]) w e w'):=fun w=>by
        have h:=sign_calls (s.extract 0 2) w (by rw [<- size_toList,hx2]; decide)
        rw [hx2] at h; exact h
       have HE:Hid (firstA s.data.toList = signA [46,46]):=by
        show _ = _
        rw [hS,hpo]
        cases hd:s.data.toList.drop 1 with
        | nil=>rw [hd] at h2; cases h2
        | cons d t=>rw [hd] at h2; simp at h2; subst h2; exact first_points
       have hyes:decide ((s.data.toList.drop 1).head? = some 46) = true:=by simpa using h2
       rw [hyes] at HP
       clear hS hpt hq hm hpo h2 hx2 hyes
       generalize signA [46,46] = A at *
       generalize firstA s.data.toList = F at *
       generalize clsB s[0] = kx at *
       go_enter Tryz.func73,Tryz.ntmps73
       go_wp2_with (first
        | (go_at_call 102; refine (HC.out _).mono ?_; rintro e w' ⟨rfl,rfl⟩)
        | (go_at_call 108; refine (HP.out _).mono ?_; rintro e w' ⟨rfl,rfl⟩))
       refine (HG2.out _).mono ?_
       rintro e w2 ⟨rfl,hb3⟩
       have hans:w2.heap[w.heap.size]? = some (Δ zero4 124 (0,0)):=by rw [hb3.block _ (by simp)]; exact heap_alloc_new w _
       have HL:Hid (Below w.heap.size w w2):=below_box hb3
       obtain ⟨z0,z1,z2,z3,zf⟩:=block4 hans
       clear hb3 hans HC
       go_wp2
       refine bodyPost_ret (v:=.tuple #[.agg #[I J A.1,I J A.2.1,Ψ (bs A.2.2.1),I J 0],I J (A.2.2.2.1:Int),I J A.2.2.2.2]) ?_ rfl ?_
       ·simp only [results,hres]
        go_simp
       ·rw [HE.out]
        exact ⟨rfl,below4 HL.out (Nat.le_refl _) _ _ _ _⟩
      ·have HE:Hid (firstA s.data.toList = (0,0,[],0,60)):=by
        show _ = _
        rw [hS,hpo]; exact first_point h2
       have hno:decide ((s.data.toList.drop 1).head? = some 46) = false:=by simpa using h2
       rw [hno] at HP
       clear hS hpt hq hm hpo h2 hno
       generalize firstA s.data.toList = F at *
       generalize clsB s[0] = kx at *
       go_enter Tryz.func73,Tryz.ntmps73
       go_wp2_with (first
        | (go_at_call 102; refine (HC.out _).mono ?_; rintro e w' ⟨rfl,rfl⟩)
        | (go_at_call 108; refine (HP.out _).mono ?_; rintro e w' ⟨rfl,rfl⟩))
       refine bodyPost_ret (v:=.tuple #[.agg #[I J 0,I J 0,Ψ ⟨#[]⟩,I J 0],I J 0,I J 60]) ?_ rfl (ret_wrong HE.out ?_)
       ·simp only [results,hres]
        go_simp
       ·exact (Below.refl _ _).alloc (Nat.le_refl _) _
     ·have hk9:(clsB s[0] == 9) = false:=by rw [beq_eq_false_iff_ne,ne_eq,cls_point]; exact hpo
      have HE:Hid (firstA s.data.toList = (0,0,[],0,60)):=by
       show _ = _
       rw [hS]; exact first_stray hpt hq hm hpo
      clear hS hpt hq hm hpo
      generalize firstA s.data.toList = F at *
      generalize clsB s[0] = kx at *
      go_enter Tryz.func73,Tryz.ntmps73
      go_wp2_with (go_at_call 102; refine (HC.out _).mono ?_; rintro e w' ⟨rfl,rfl⟩)
      refine bodyPost_ret (v:=.tuple #[.agg #[I J 0,I J 0,Ψ ⟨#[]⟩,I J 0],I J 0,I J 60]) ?_ rfl (ret_wrong HE.out ?_)
      ·simp only [results,hres]
       go_simp
      ·exact (Below.refl _ _).alloc (Nat.le_refl _) _
end Go.Proofs.YtlaodgdlkkmmeaaGreat
