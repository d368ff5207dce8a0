/-
  The walk of between. The walks of number, token, named, text, sign. The walk of strings.Cut at one byte.
-/
import Derived.BigQuiet
import Derived.Deep.QuietTactic
import Derived.Test.YtlaodgdlkkmmeaaGreatG19
import Derived.Test.YtlaodgdlkkmmeaaGreatG03
import Derived.Test.YtlaodgdlkkmmeaaGreatShelf
namespace Go.Proofs.YtlaodgdlkkmmeaaGreat
open Go.RowKit
open Go.Value renaming int->I
open Go.IntKind renaming i64->J
open Go.Ending renaming returned->Ω
set_option maxHeartbeats 2000000
/-! between -/
theorem skip_lf {S:List UInt8} {k:Nat} {m:Bool} (h:S[k]? = some 10):skipGo m (S.drop k) = 1 + skipGo false (S.drop (k + 1)):=by
 rw [drop_at h,skipGo,if_pos rfl,Nat.add_comm]
theorem skip_rem {S:List UInt8}:∀ (d k:Nat),k + d <= S.length -> (∀ j c,j < d -> S[k + j]? = some c -> c ≠ 10) -> skipGo true (S.drop k) = d + skipGo true (S.drop (k + d))
 | 0,k,_,_=>by simp
 | d + 1,k,hl,h=>by
   have hk:S[k]? = some (S[k]'(by omega)):=List.getElem?_eq_getElem (by omega)
   have h0:=h 0 _ (by omega) hk
   rw [drop_at hk,skipGo,if_neg h0,if_pos (by simp),skip_rem d (k + 1) (by omega) (fun j c hj hc=>h (j + 1) c (by omega) (by rw [<- hc]; congr 1; omega))]
   rw [show k + 1 + d = k + (d + 1) by omega]
   omega
theorem skip_blank {S:List UInt8} {k:Nat} {c:UInt8} (h:S[k]? = some c) (h1:c ≠ 10) (h2:isBl c = true):skipGo false (S.drop k) = 1 + skipGo false (S.drop (k + 1)):=by
 rw [drop_at h,skipGo,if_neg h1,if_pos (by simp [h2]),Nat.add_comm]
theorem skip_hash {S:List UInt8} {k:Nat} (h:S[k]? = some 35):skipGo false (S.drop k) = 1 + skipGo true (S.drop (k + 1)):=by
 rw [drop_at h,skipGo,if_neg (by decide),if_neg (by decide),if_pos rfl,Nat.add_comm]
theorem skip_stop {S:List UInt8} {k:Nat} {c:UInt8} (h:S[k]? = some c) (h2:isBl c = false) (h3:c ≠ 35):skipGo false (S.drop k) = 0:=by
 have h1:c ≠ 10:=by rintro rfl; exact absurd h2 (by decide)
 rw [drop_at h,skipGo,if_neg h1,if_neg (by simp [h2]),if_neg h3]
theorem between_calls (s:ByteArray) (w:World) :
 Calls Tryz.prog 72 #[.string s] w fun e w'=>e = Ω (I J (skipB s.data.toList:Int)) /\ Below w.heap.size w w':=by
 go_enter Tryz.func72,Tryz.ntmps72
 go_wp2
 go_loopw [3] (fun v wr=>∃ (pos:Nat) (m:Bool),pos <= s.size /\ v = .bool m /\ pos + skipGo m (s.data.toList.drop pos) = skipB s.data.toList /\ wr.heap[w.heap.size]? = some (.stringIter s pos) /\ Below w.heap.size w wr) (fun _ wr=>s.size - wr.iterPos w.heap.size)
 case atStart=>exact ⟨0,false,Nat.zero_le _,rfl,by simp [skipB],World.iter_heap w s 0,(Below.refl _ _).alloc (Nat.le_refl _) _⟩
 case round=>
  obtain ⟨pos,m,hp0,rfl,hr,hit,hbw⟩:=hrel
  have hpos0:=iterPos_of hit
  have HR:=hid hr
  clear hr
  by_cases hp:pos < s.size
  ·obtain ⟨x,d,hnx,hd1,hd2,hx⟩:=next_rune wr w.heap.size s pos hit hp
   have HG:Hid (s.data.toList[pos]? = some s[pos]):=getElem?_at s pos hp
   have hit2:=Lib.iterAt_heap wr w.heap.size s pos (pos + d) hit
   have hbw2:=Lib.below_iterAt hbw (k:=w.heap.size) (Nat.le_refl _) s (pos + d)
   obtain ⟨W1,hW1⟩:∃ W1,W1 = wr.iterAt w.heap.size s (pos + d):=⟨_,rfl⟩
   rw [<- hW1] at hnx hit2 hbw2
   clear hW1 hit hbw
   have hcl:clsI x = clsB s[pos]:=rune_cls (by rcases hx with ⟨h,_⟩ | ⟨h1,h2,_⟩; exact .inl h; exact .inr ⟨h1,h2⟩)
   have hten:x = 10 ↔ s[pos] = 10:=by
    rw [show (10:UInt8) = UInt8.ofNat 10 from rfl,eqN _ 10 (by decide)]
    rcases hx with ⟨h,_⟩ | ⟨h1,h2,_⟩ <;> omega
   generalize hcx:clsI x = kx at *
   have HC:Hid (∀ w,Calls Tryz.prog 102 #[.int .i32 x] w fun e w'=>e = Ω (I J kx) /\ w' = w):=fun w=>by rw [<- hcx]; exact class_calls x w
   have HB:Hid (Below w.heap.size w W1):=hbw2
   have HI:=hid hit2
   clear hcx hbw2 hit2
   have low:isBl s[pos] = true \/ s[pos] = 35 -> d = 1:=by
    intro h
    rcases hx with ⟨_,h',_⟩ | ⟨_,h',_⟩
    ·exact h'
    ·have h0:clsB s[pos] = 0:=cls_high (by omega)
     rw [<- cls_bl,<- cls_hash,h0] at h
     omega
   by_cases h10:s[pos] = 10
   ·have hb:(x == 10) = true:=by rw [beq_iff_eq]; exact hten.2 h10
    obtain rfl:=low (.inl (by rw [h10]; decide))
    have HN:Hid (pos + 1 + skipGo false (s.data.toList.drop (pos + 1)) = skipB s.data.toList):=by
     have:=HR.out
     rw [skip_lf (by rw [HG.out,h10])] at this
     show _ = _
     omega
    clear hcl hx h10 hten low HR HG
    go_wp2
    go_roundw
    case rel=>exact ⟨pos + 1,false,by omega,rfl,HN.out,HI.out,HB.out⟩
    case measure=>rw [iterPos_of HI.out,hpos0]; omega
   ·have hb:(x == 10) = false:=by rw [beq_eq_false_iff_ne]; exact fun e=>h10 (hten.1 e)
    cases m with
    | true=>
      have HN:Hid (pos + d + skipGo true (s.data.toList.drop (pos + d)) = skipB s.data.toList):=by
       have:=HR.out
       rw [skip_rem d pos (by rw [size_toList]; omega) (by
        intro j c hj hc
        rcases hx with ⟨_,rfl,_⟩ | ⟨_,_,hall⟩
        ·obtain rfl:j = 0:=by omega
         rw [Nat.add_zero,HG.out] at hc
         cases hc; exact h10
        ·have hlt:pos + j < s.size:=by omega
         have h1:=hall j hlt hj
         rw [getElem?_at s _ hlt] at hc
         cases hc
         intro e
         rw [e] at h1
         exact absurd h1 (by decide))] at this
       show _ = _
       omega
      clear hcl hx h10 hten low HR HG
      go_wp2
      go_roundw
      case rel=>exact ⟨pos + d,true,by omega,rfl,HN.out,HI.out,HB.out⟩
      case measure=>rw [iterPos_of HI.out,hpos0]; omega
    | false=>
      cases hbl:isBl s[pos] with
      | true=>
        have hk:(kx == 1) = true:=by rw [beq_iff_eq,hcl,cls_bl]; exact hbl
        obtain rfl:=low (.inl hbl)
        have HN:Hid (pos + 1 + skipGo false (s.data.toList.drop (pos + 1)) = skipB s.data.toList):=by
         have:=HR.out
         rw [skip_blank HG.out h10 hbl] at this
         show _ = _
         omega
        clear hcl hx h10 hten low HR HG
        go_wp2_with (go_at_call 102; refine (HC.out _).mono ?_; rintro e w' ⟨rfl,rfl⟩)
        go_roundw
        case rel=>exact ⟨pos + 1,false,by omega,rfl,HN.out,HI.out,HB.out⟩
        case measure=>rw [iterPos_of HI.out,hpos0]; omega
      | false=>
        have hk:(kx == 1) = false:=by rw [beq_eq_false_iff_ne,hcl,ne_eq,cls_bl,hbl]; decide
        by_cases h35:s[pos] = 35
        ·have hk2:(kx == 2) = true:=by rw [beq_iff_eq,hcl,cls_hash]; exact h35
         obtain rfl:=low (.inr h35)
         have HN:Hid (pos + 1 + skipGo true (s.data.toList.drop (pos + 1)) = skipB s.data.toList):=by
          have:=HR.out
          rw [skip_hash (by rw [HG.out,h35])] at this
          show _ = _
          omega
         clear hcl hx h10 hten low HR HG h35
         go_wp2_with (go_at_call 102; refine (HC.out _).mono ?_; rintro e w' ⟨rfl,rfl⟩)
         go_roundw
         case rel=>exact ⟨pos + 1,true,by omega,rfl,HN.out,HI.out,HB.out⟩
         case measure=>rw [iterPos_of HI.out,hpos0]; omega
        ·have hk2:(kx == 2) = false:=by rw [beq_eq_false_iff_ne,hcl,ne_eq,cls_hash]; exact h35
         have HE:Hid ((pos:Int) = (skipB s.data.toList:Int)):=by
          have:=HR.out
          rw [skip_stop HG.out hbl h35] at this
          show _ = _
          omega
         clear hcl hx h10 hten low HR HG h35
         go_wp2_with (go_at_call 102; refine (HC.out _).mono ?_; rintro e w' ⟨rfl,rfl⟩)
         go_ret
         exact ⟨ret_int HE.out,HB.out⟩
  ·have hnx:∀ ty,(Instr.next (.pointer (some ⟨w.heap.size,0,none⟩)) true ty).run Tryz.prog wr = _:=fun ty=>Lib.run_next_end_at wr w.heap.size s pos ty hit hp
   have HE:Hid ((s.size:Int) = (skipB s.data.toList:Int)):=by
    have:=HR.out
    rw [List.drop_eq_nil_of_le (by rw [size_toList]; omega)] at this
    simp only [skipGo] at this
    show _ = _
    omega
   have HB:Hid (Below w.heap.size w wr):=hbw
   clear hbw HR
   go_wp2
   go_ret
   exact ⟨ret_int HE.out,HB.out⟩
open Go.Value renaming int->I,string->Ψ
open Go.Obj renaming cells->Δ
set_option maxRecDepth 20000
set_option maxHeartbeats 4000000
theorem keepB {W W':World} {k:Nat} {cs:Array Value} {t:TypeId} (h:W.heap[k]? = some (Δ cs t (0,0))) (hb:Below W.heap.size W W'):W'.heap[k]? = some (Δ cs t (0,0)):=by
 rw [hb.block _ (lt_block h)]; exact h
theorem cellB {W:World} {k:Nat} {cs:Array Value} {t:TypeId} (h:W.heap[k]? = some (Δ cs t (0,0))) {i:Nat} {u:Value} (hi:cs[i]? = some u):W.cell? ⟨k,i,none⟩ = some u:=by rw [Lib.cell_of_heap h]; exact hi
theorem freeB {W:World} {k:Nat} {cs:Array Value} {t:TypeId} (h:W.heap[k]? = some (Δ cs t (0,0))) (i:Nat):W.frozen? ⟨k,i,none⟩ = false:=frozen_of_row W k i cs t h
theorem below_box {w w1:World} {o:Obj} (hb:Below (w.alloc o).heap.size (w.alloc o) w1):Below w.heap.size w w1:=
 ((Below.refl w.heap.size w).alloc (Nat.le_refl _) o).trans (hb.mono (by simp))
theorem below4 {B:Nat} {a w:World} (h:Below B a w) {k:Nat} (hk:B <= k) (v0 v1 v2 v3:Value):Below B a ((((w.setCell ⟨k,0,none⟩ v0).setCell ⟨k,1,none⟩ v1).setCell ⟨k,2,none⟩ v2).setCell ⟨k,3,none⟩ v3):=
 (((h.setCell hk _).setCell hk _).setCell hk _).setCell hk _
def zero4:Array Value:=#[I J 0,I J 0,Ψ ⟨#[]⟩,I J 0]
/-- The cells of a block that holds a token, and that they may be written. -/
theorem block4 {W:World} {k:Nat} {a b c d:Value} (h:W.heap[k]? = some (Δ #[a,b,c,d] 124 (0,0))) :
 W.cell? ⟨k,0,none⟩ = some a /\ W.cell? ⟨k,1,none⟩ = some b /\ W.cell? ⟨k,2,none⟩ = some c /\ W.cell? ⟨k,3,none⟩ = some d /\ ∀ j,W.frozen? ⟨k,j,none⟩ = false:=
 ⟨cellB h rfl,cellB h rfl,cellB h rfl,cellB h rfl,freeB h⟩
/-- What a function leaves that tells a token, how many bytes it has, and an error: the token's place is not told yet. -/
def TokPost (a:Int × Int × List UInt8 × Nat × Int) (w:World) (e:Ending) (w':World):Prop:=
 e = Ω (.tuple #[.agg #[I J a.1,I J a.2.1,Ψ (bs a.2.2.1),I J 0],I J (a.2.2.2.1:Int),I J a.2.2.2.2]) /\ Below w.heap.size w w'
theorem ret_tok {a:Int × Int × List UInt8 × Nat × Int} {k m z:Int} {t:List UInt8} {n:Nat} {w w':World} (h:a = (k,m,t,n,z)) (hb:Below w.heap.size w w'):TokPost a w (Ω (.tuple #[.agg #[I J k,I J m,Ψ (bs t),I J 0],I J (n:Int),I J z])) w':=by
 subst h; exact ⟨rfl,hb⟩
theorem ret_wrong {a:Int × Int × List UInt8 × Nat × Int} {z:Int} {w w':World} (h:a = (0,0,[],0,z)) (hb:Below w.heap.size w w'):TokPost a w (Ω (.tuple #[.agg #[I J 0,I J 0,Ψ ⟨#[]⟩,I J 0],I J 0,I J z])) w':=by
 subst h; exact ⟨rfl,hb⟩
def numA (s:List UInt8):Int × Int × List UInt8 × Nat × Int:=
 match numO s with
 | some n=>(2,(n:Int),[],s.length,0)
 | none=>(0,0,[],0,61)
theorem numA_none {s:List UInt8} (h:numO s = none):numA s = (0,0,[],0,61):=by unfold numA; rw [h]
theorem numA_some {s:List UInt8} {n:Nat} (h:numO s = some n):numA s = (2,(n:Int),[],s.length,0):=by unfold numA; rw [h]
theorem numGo_no {n:Nat} {c:UInt8} {r:List UInt8} (h:isDig c = false):numGo n (c :: r) = none:=by rw [numGo,if_neg (by simp [h])]
theorem numGo_big {n:Nat} {c:UInt8} {r:List UInt8} (h:isDig c = true) (hb:maxC < 10 * n + (c.toNat - 48)):numGo n (c :: r) = none:=by rw [numGo,if_pos h,if_pos hb]
theorem numGo_go {n:Nat} {c:UInt8} {r:List UInt8} (h:isDig c = true) (hb:¬ maxC < 10 * n + (c.toNat - 48)):numGo n (c :: r) = numGo (10 * n + (c.toNat - 48)) r:=by rw [numGo,if_pos h,if_neg hb]
theorem isDig_iff (c:UInt8):isDig c = true ↔ 48 <= c.toNat /\ c.toNat <= 57:=by simp [isDig]
theorem val_int {k:IntKind} {a b:Int} (h:a = b):Value.int k a = .int k b:=by rw [h]
theorem head_at (s:ByteArray) (h:0 < s.size):s.data.toList.head? = some s[0]:=by
 rw [List.head?_eq_getElem?,getElem?_at s 0 h]
theorem eq48 (c:UInt8):c = 48 ↔ c.toNat = 48:=eqN c 48 (by decide)
/-- The place of the answer, and of the look through a text behind it. -/
structure NumAt (w:World) (s:ByteArray) (pos:Nat) (W:World):Prop where
 low:Below w.heap.size w W
 ans:W.heap[w.heap.size]? = some (Δ zero4 124 (0,0))
 iter:W.heap[w.heap.size + 1]? = some (.stringIter s pos)
theorem NumAt.step {w W:World} {s:ByteArray} {pos:Nat} (h:NumAt w s pos W) (q:Nat):NumAt w s q (W.iterAt (w.heap.size + 1) s q):=by
 refine ⟨Lib.below_iterAt h.low (k:=w.heap.size + 1) (by omega) s q,?_,Lib.iterAt_heap W (w.heap.size + 1) s pos q h.iter⟩
 have hb:=Lib.below_iterAt (Below.refl (w.heap.size + 1) W) (k:=w.heap.size + 1) (Nat.le_refl _) s q
 rw [hb.block _ (by omega)]; exact h.ans
theorem numAt_start (w:World) (s:ByteArray):NumAt w s 0 ((w.alloc (Δ zero4 124 (0,0))).alloc (.stringIter s 0)):=by
 refine ⟨((Below.refl _ _).alloc (Nat.le_refl _) _).alloc (by simp) _,?_,?_⟩
 ·have h:=(Below.refl (w.alloc (Δ zero4 124 (0,0))).heap.size (w.alloc (Δ zero4 124 (0,0)))).alloc (Nat.le_refl _) (.stringIter s 0)
  rw [h.block _ (by simp)]; exact heap_alloc_new w _
 ·have h:=heap_alloc_new (w.alloc (Δ zero4 124 (0,0))) (.stringIter s 0)
  simpa using h
theorem number_calls (s:ByteArray) (w:World) :
 Calls Tryz.prog 103 #[Ψ s] w fun e w'=>TokPost (numA s.data.toList) w e w':=by
 have hres:Tryz.f103.results = #[.cell 2 124,.tmp 3,.tmp 4]:=by kernel_rfl
 by_cases h0:1 < s.size /\ s.data.toList.head? = some 48
 ·have hp:0 < s.size:=by omega
  have HE:Hid (numA s.data.toList = (0,0,[],0,61)):=numA_none (by unfold numO; rw [if_pos (by rw [size_toList]; exact h0)])
  have h1:decide ((1:Int) < (s.size:Int)) = true:=by simp; omega
  have h48:((s[0].toNat:Int) == 48) = true:=by
   rw [head_at s hp] at h0
   have:=(eq48 s[0]).1 (Option.some.inj h0.2)
   rw [beq_iff_eq]; omega
  clear h0
  go_enter Tryz.func103,Tryz.ntmps103
  go_wp2
  refine bodyPost_ret (v:=.tuple #[.agg #[I J 0,I J 0,Ψ ⟨#[]⟩,I J 0],I J 0,I J 61]) ?_ rfl (ret_wrong HE.out ?_)
  ·simp only [results,hres]
   go_simp
  ·exact (Below.refl _ _).alloc (Nat.le_refl _) _
 have HO:Hid (numO s.data.toList = numGo 0 s.data.toList):=by
  show _ = _
  unfold numO; rw [if_neg (by rw [size_toList]; exact h0)]
 have hbc:(decide ((1:Int) < (s.size:Int)) = false) \/ (∃ _:0 < s.size,decide ((1:Int) < (s.size:Int)) = true /\ ((s[0].toNat:Int) == 48) = false):=by
  by_cases h1:1 < s.size
  ·refine .inr ⟨by omega,by simp; omega,?_⟩
   rw [beq_eq_false_iff_ne]
   intro e
   exact h0 ⟨h1,by rw [head_at s (by omega),(eq48 s[0]).2 (by omega)]⟩
  ·exact .inl (by simp; omega)
 clear h0
 rcases hbc with hb | ⟨hb0,hb1,hb2⟩ <;> (
  go_enter Tryz.func103,Tryz.ntmps103
  go_wp2
  go_loopw [5] (fun v wr=>∃ (pos n:Nat),pos <= s.size /\ n <= maxC /\ v = I J n /\ Hid (numGo n (s.data.toList.drop pos) = numGo 0 s.data.toList) /\ NumAt w s pos wr) (fun _ wr=>s.size - wr.iterPos (w.heap.size + 1))
  case atStart=>exact ⟨0,0,Nat.zero_le _,Nat.zero_le _,rfl,rfl,numAt_start w s⟩
  case round=>
   obtain ⟨pos,n,hp0,hn,rfl,HT,hat⟩:=hrel
   have hpos0:=iterPos_of hat.iter
   unfold maxC at hn
   by_cases hp:pos < s.size
   ·obtain ⟨x,d,hnx,hd1,hd2,hx⟩:=next_rune wr (w.heap.size + 1) s pos hat.iter hp
    have HG:Hid (s.data.toList.drop pos = s[pos] :: s.data.toList.drop (pos + 1)):=drop_at (getElem?_at s pos hp)
    have hat2:=hat.step (pos + d)
    obtain ⟨W1,hW1⟩:∃ W1,W1 = wr.iterAt (w.heap.size + 1) s (pos + d):=⟨_,rfl⟩
    rw [<- hW1] at hnx hat2
    clear hW1 hat
    obtain ⟨z0,z1,z2,z3,zf⟩:=block4 hat2.ans
    have HL:Hid (Below w.heap.size w W1):=hat2.low
    have hcl:clsI x = clsB s[pos]:=rune_cls (by rcases hx with ⟨h,_⟩ | ⟨h1,h2,_⟩; exact .inl h; exact .inr ⟨h1,h2⟩)
    generalize hcx:clsI x = kx at *
    have HC:Hid (∀ w,Calls Tryz.prog 102 #[.int .i32 x] w fun e w'=>e = Ω (I J kx) /\ w' = w):=fun w=>by rw [<- hcx]; exact class_calls x w
    have HW:Hid (numGo n (s[pos] :: s.data.toList.drop (pos + 1)) = none -> numA s.data.toList = (0,0,[],0,61)):=fun h=>numA_none (by rw [HO.out,<- HT.out,HG.out,h])
    clear hcx
    cases hc:isDig s[pos] with
    | false=>
      have hk:(kx != 3) = true:=by
       rw [bne_iff_ne,hcl,ne_eq,cls_dig,hc]; decide
      have HE:Hid (numA s.data.toList = (0,0,[],0,61)):=HW.out (numGo_no hc)
      clear hcl hx hc HT HW HG hat2
      go_wp2_with (go_at_call 102; refine (HC.out _).mono ?_; rintro e w' ⟨rfl,rfl⟩)
      refine bodyPost_ret (v:=.tuple #[.agg #[I J 0,I J 0,Ψ ⟨#[]⟩,I J 0],I J 0,I J 61]) ?_ rfl (ret_wrong HE.out ?_)
      ·simp only [results,hres]
       go_simp
      ·exact below4 HL.out (Nat.le_refl _) _ _ _ _
    | true=>
      have hdg:=(isDig_iff _).1 hc
      obtain ⟨hg1,hg2⟩:=hdg
      have hk:(kx != 3) = false:=by
       rw [bne_eq_false_iff_eq,hcl,cls_dig,hc]
      obtain ⟨rfl,rfl⟩:x = (s[pos].toNat:Int) /\ d = 1:=by
       rcases hx with ⟨h1,h2,_⟩ | ⟨_,h2,_⟩
       ·exact ⟨h1,h2⟩
       ·omega
      by_cases hbig:maxC < 10 * n + (s[pos].toNat - 48)
      ·have HE:Hid (numA s.data.toList = (0,0,[],0,61)):=HW.out (numGo_big hc hbig)
       unfold maxC at hbig
       have hgt:decide ((72057594037927936:Int) < 10 * (n:Int) + ((s[pos].toNat:Int) - 48)) = true:=by simp; omega
       clear hcl hx hc HT HW HG hat2
       go_wp2_with (go_at_call 102; refine (HC.out _).mono ?_; rintro e w' ⟨rfl,rfl⟩)
       refine bodyPost_ret (v:=.tuple #[.agg #[I J 0,I J 0,Ψ ⟨#[]⟩,I J 0],I J 0,I J 61]) ?_ rfl (ret_wrong HE.out ?_)
       ·simp only [results,hres]
        go_simp
       ·exact below4 HL.out (Nat.le_refl _) _ _ _ _
      ·have HS:Hid (numGo (10 * n + (s[pos].toNat - 48)) (s.data.toList.drop (pos + 1)) = numGo 0 s.data.toList):=by
        show _ = _
        rw [<- HT.out,HG.out,numGo_go hc hbig]
       have hbig2:=hbig
       unfold maxC at hbig2
       have hgt:decide ((72057594037927936:Int) < 10 * (n:Int) + ((s[pos].toNat:Int) - 48)) = false:=by simp; omega
       have HA:Hid (NumAt w s (pos + 1) W1):=hat2
       clear hcl hx hc HT HW HG hat2 z0 z1 z2 z3 zf
       go_wp2_with (go_at_call 102; refine (HC.out _).mono ?_; rintro e w' ⟨rfl,rfl⟩)
       go_roundw
       case rel=>exact ⟨pos + 1,10 * n + (s[pos].toNat - 48),by omega,by omega,val_int (by omega),HS.out,HA.out⟩
       case measure=>rw [iterPos_of HA.out.iter,hpos0]; omega
   ·have hnx:∀ ty,(Instr.next (.pointer (some ⟨w.heap.size + 1,0,none⟩)) true ty).run Tryz.prog wr = _:=fun ty=>Lib.run_next_end_at wr (w.heap.size + 1) s pos ty hat.iter hp
    have HE:Hid (numA s.data.toList = (2,(n:Int),[],s.size,0)):=by
     have h:=HT.out
     rw [List.drop_eq_nil_of_le (by rw [size_toList]; omega),numGo] at h
     show _ = _
     rw [numA_some (by rw [HO.out,<- h]),size_toList]
    obtain ⟨z0,z1,z2,z3,zf⟩:=block4 hat.ans
    have HL:Hid (Below w.heap.size w wr):=hat.low
    clear hat HT
    go_wp2
    refine bodyPost_ret (v:=.tuple #[.agg #[I J 2,I J n,Ψ ⟨#[]⟩,I J 0],I J s.size,I J 0]) ?_ rfl (ret_tok (t:=[]) HE.out ?_)
    ·simp only [results,hres]
     go_simp
    ·exact below4 HL.out (Nat.le_refl _) _ _ _ _)
def hasB (c:UInt8) (l:List UInt8):Bool:=decide (c ∈ l)
def headB (c:UInt8) (l:List UInt8):List UInt8:=l.takeWhile (· != c)
def tailB (c:UInt8) (l:List UInt8):List UInt8:=(l.dropWhile (· != c)).tail
theorem headB_cons_eq (c:UInt8) (r:List UInt8):headB c (c :: r) = []:=by simp [headB]
theorem tailB_cons_eq (c:UInt8) (r:List UInt8):tailB c (c :: r) = r:=by simp [tailB]
theorem headB_cons_ne {c d:UInt8} (h:d ≠ c) (r:List UInt8):headB c (d :: r) = d :: headB c r:=by simp [headB,h]
theorem tailB_cons_ne {c d:UInt8} (h:d ≠ c) (r:List UInt8):tailB c (d :: r) = tailB c r:=by simp [tailB,h]
theorem headB_not_mem {c:UInt8}:∀ {l:List UInt8},c ∉ l -> headB c l = l
 | [],_=>rfl
 | d :: r,h=>by
   have h1:d ≠ c:=fun e=>h (by simp [e])
   rw [headB_cons_ne h1,headB_not_mem (fun hm=>h (List.mem_cons_of_mem _ hm))]
theorem tailB_not_mem {c:UInt8}:∀ {l:List UInt8},c ∉ l -> tailB c l = []
 | [],_=>rfl
 | d :: r,h=>by
   have h1:d ≠ c:=fun e=>h (by simp [e])
   rw [tailB_cons_ne h1,tailB_not_mem (fun hm=>h (List.mem_cons_of_mem _ hm))]
theorem head_tail_mem {c:UInt8}:∀ {l:List UInt8},c ∈ l -> l = headB c l ++ c :: tailB c l
 | d :: r,h=>by
   by_cases h1:d = c
   ·subst h1; rw [headB_cons_eq,tailB_cons_eq]; rfl
   ·rw [headB_cons_ne h1,tailB_cons_ne h1,List.cons_append,<- head_tail_mem ((List.mem_cons.1 h).resolve_left fun e=>h1 e.symm)]
theorem indexByte_none (c:UInt8):∀ (l:List UInt8),c ∉ l -> Lib.indexByte l c = -1
 | [],_=>rfl
 | b :: l,h=>by
   have h1:b ≠ c:=fun e=>h (by simp [e])
   simp [Lib.indexByte,h1,indexByte_none c l (fun hm=>h (List.mem_cons_of_mem _ hm))]
theorem indexByte_head (c:UInt8):∀ (l:List UInt8),c ∈ l -> Lib.indexByte l c = ((headB c l).length:Int)
 | b :: l,h=>by
   by_cases h1:b = c
   ·subst h1; rw [headB_cons_eq]; simp [Lib.indexByte]
   ·have ih:=indexByte_head c l ((List.mem_cons.1 h).resolve_left fun e=>h1 e.symm)
    rw [headB_cons_ne h1]
    unfold Lib.indexByte
    rw [ih]
    have h2:¬ ((headB c l).length:Int) = -1:=by omega
    simp [h1,h2]
theorem take_headB {c:UInt8} {l:List UInt8} (h:c ∈ l):l.take (headB c l).length = headB c l:=by
 conv=>lhs; arg 2; rw [head_tail_mem h]
 simp
theorem drop_headB {c:UInt8} {l:List UInt8} (h:c ∈ l):l.drop ((headB c l).length + 1) = tailB c l:=by
 conv=>lhs; arg 2; rw [head_tail_mem h]
 rw [show headB c l ++ c :: tailB c l = (headB c l ++ [c]) ++ tailB c l by simp,show (headB c l).length + 1 = (headB c l ++ [c]).length by simp,List.drop_left]
theorem headB_length_lt {c:UInt8} {l:List UInt8} (h:c ∈ l):(headB c l).length < l.length:=by
 conv=>rhs; rw [head_tail_mem h]
 simp
theorem index1_calls (s:ByteArray) (c:UInt8) (w:World) :
 Calls Tryz.prog 152 #[Ψ s,Ψ ⟨#[c]⟩] w fun e w'=>e = Ω (I J (Lib.indexByte s.data.toList c)) /\ w' = w:=by
 have HI:Hid (∀ w,Calls Tryz.prog 140 #[Ψ s,.int .u8 (c.toNat:Int)] w fun e w'=>e = Ω (I J (Lib.indexByte s.data.toList c)) /\ w' = w):=fun w=>by
  refine (Tryz.stringslite_IndexByte _ _ _).mono ?_
  rintro e w' ⟨rfl,rfl⟩
  exact ⟨by simp,rfl⟩
 by_cases he:([c] == s.toList) = true
 ·have HX:Hid (Lib.indexByte s.data.toList c = 0):=by
   have e:[c] = s.toList:=by simpa using he
   rw [ByteArray.toList_eq] at e
   show Lib.indexByte _ _ = _
   rw [<- e]; simp [Lib.indexByte]
  clear HI
  go_enter Tryz.func152,Tryz.ntmps152
  go_wp2
  go_ret
  exact ⟨ret_int HX.out.symm,rfl⟩
 ·have he2:([c] == s.toList) = false:=by simpa using he
  clear he
  go_enter Tryz.func152,Tryz.ntmps152
  go_wp2_with (go_at_call 140; refine (HI.out _).mono ?_; rintro e w' ⟨rfl,rfl⟩)
  go_ret
  exact ⟨rfl,rfl⟩
theorem ret3 {a b:Value} {x y:Bool} (h:x = y):Ending.returned (.tuple #[a,b,.bool x]) = Ω (.tuple #[a,b,.bool y]):=by rw [h]
theorem extract_list (s:ByteArray) (i j:Nat):(s.extract i j).data.toList = (s.data.toList.take j).drop i:=by
 simp [List.drop_take]
def CutPost (s:ByteArray) (c:UInt8) (w:World) (e:Ending) (w':World):Prop:=
 ∃ a b n,e = Ω (.tuple #[Ψ a,Ψ b,.bool (hasB c s.data.toList)]) /\ a.data.toList = headB c s.data.toList /\ b.data.toList = tailB c s.data.toList /\ w' = w.drewN n
theorem liteCut_calls (s:ByteArray) (c:UInt8) (w:World) (hs:s.size <= maxLen) :
 Calls Tryz.prog 147 #[Ψ s,Ψ ⟨#[c]⟩] w fun e w'=>CutPost s c w e w':=by
 unfold maxLen at hs
 by_cases hm:c ∈ s.data.toList
 ·have hl:=headB_length_lt hm
  have HI:Hid (∀ w,Calls Tryz.prog 152 #[Ψ s,Ψ ⟨#[c]⟩] w fun e w'=>e = Ω (I J ((headB c s.data.toList).length:Int)) /\ w' = w):=fun w=>by
   rw [<- indexByte_head c _ hm]; exact index1_calls s c w
  rw [size_toList] at hl
  have HT:Hid (s.data.toList.take (headB c s.data.toList).length = headB c s.data.toList /\ s.data.toList.drop ((headB c s.data.toList).length + 1) = tailB c s.data.toList):=⟨take_headB hm,drop_headB hm⟩
  generalize (headB c s.data.toList).length = n at *
  have HM:Hid (c ∈ s.data.toList):=hm
  clear hm
  go_enter Tryz.func147,Tryz.ntmps147
  go_wp2_with (go_at_call 152; refine (HI.out _).mono ?_; rintro e w' ⟨rfl,rfl⟩)
  go_quiet (fail)
  go_wp2
  go_ret3
  refine ⟨s.extract 0 n,s.extract (n + 1) s.size,_,ret3 (by simpa [hasB] using HM.out),?_,?_,rfl⟩
  ·rw [extract_list,<- HT.out.1]; simp
  ·rw [extract_list,<- HT.out.2,List.take_of_length_le (by simp)]
 ·have HI:Hid (∀ w,Calls Tryz.prog 152 #[Ψ s,Ψ ⟨#[c]⟩] w fun e w'=>e = Ω (I J (-1)) /\ w' = w):=fun w=>by
   rw [<- indexByte_none c _ hm]; exact index1_calls s c w
  have HM:Hid (c ∉ s.data.toList):=hm
  clear hm
  go_enter Tryz.func147,Tryz.ntmps147
  go_wp2_with (go_at_call 152; refine (HI.out _).mono ?_; rintro e w' ⟨rfl,rfl⟩)
  go_ret3
  exact ⟨s,ByteArray.empty,0,ret3 (by simpa [hasB] using HM.out),(headB_not_mem HM.out).symm,(tailB_not_mem HM.out).symm,rfl⟩
theorem cut_calls (s:ByteArray) (c:UInt8) (w:World) (hs:s.size <= maxLen) :
 Calls Tryz.prog 133 #[Ψ s,Ψ ⟨#[c]⟩] w fun e w'=>CutPost s c w e w':=by
 have HC:Hid (∀ w,Calls Tryz.prog 147 #[Ψ s,Ψ ⟨#[c]⟩] w fun e w'=>CutPost s c w e w'):=fun w=>liteCut_calls s c w hs
 clear hs
 go_enter Tryz.func133,Tryz.ntmps133
 go_wp2_with (go_at_call 147; refine (HC.out _).mono ?_; rintro e w' ⟨a,b,n,rfl,h1,h2,rfl⟩)
 go_ret3
 exact ⟨a,b,n,rfl,h1,h2,rfl⟩
end Go.Proofs.YtlaodgdlkkmmeaaGreat
