/-
  The walks of number, token, named, text, sign. And what follows.
-/
import Derived.BigQuiet
import Derived.Deep.QuietTactic
import Derived.Test.YtbbbnopganhebabGreatG21
import Derived.Test.YtbbbnopganhebabGreatG03
import Derived.Test.YtbbbnopganhebabGreatShelf
namespace Go.Proofs.YtbbbnopganhebabGreat
open Go.RowKit
open Go.Value renaming int->I
open Go.IntKind renaming i64->J
set_option maxRecDepth 20000
set_option maxHeartbeats 4000000
theorem keepB {W W':World} {k:Nat} {cs:Array Value} {t:TypeId} (h:W.heap[k]? = some (.cells cs t (0,0))) (hb:Below W.heap.size W W'):W'.heap[k]? = some (.cells cs t (0,0)):=by
 rw [hb.block _ (lt_block h)]; exact h
theorem cellB {W:World} {k:Nat} {cs:Array Value} {t:TypeId} (h:W.heap[k]? = some (.cells cs t (0,0))) {i:Nat} {u:Value} (hi:cs[i]? = some u):W.cell? ⟨k,i,none⟩ = some u:=by rw [Lib.cell_of_heap h]; exact hi
theorem freeB {W:World} {k:Nat} {cs:Array Value} {t:TypeId} (h:W.heap[k]? = some (.cells cs t (0,0))) (i:Nat):W.frozen? ⟨k,i,none⟩ = false:=frozen_of_row W k i cs t h
theorem below_box {w w1:World} {o:Obj} (hb:Below (w.alloc o).heap.size (w.alloc o) w1):Below w.heap.size w w1:=
 ((Below.refl w.heap.size w).alloc (Nat.le_refl _) o).trans (hb.mono (by simp))
theorem below4 {B:Nat} {a w:World} (h:Below B a w) {k:Nat} (hk:B <= k) (v0 v1 v2 v3:Value):Below B a ((((w.setCell ⟨k,0,none⟩ v0).setCell ⟨k,1,none⟩ v1).setCell ⟨k,2,none⟩ v2).setCell ⟨k,3,none⟩ v3):=
 (((h.setCell hk _).setCell hk _).setCell hk _).setCell hk _
def zero4:Array Value:=#[I J 0,I J 0,.string ⟨#[]⟩,I J 0]
/-- The cells of a block that holds a token, and that they may be written. -/
theorem block4 {W:World} {k:Nat} {a b c d:Value} (h:W.heap[k]? = some (.cells #[a,b,c,d] 166 (0,0))) :
 W.cell? ⟨k,0,none⟩ = some a /\ W.cell? ⟨k,1,none⟩ = some b /\ W.cell? ⟨k,2,none⟩ = some c /\ W.cell? ⟨k,3,none⟩ = some d /\ ∀ j,W.frozen? ⟨k,j,none⟩ = false:=
 ⟨cellB h rfl,cellB h rfl,cellB h rfl,cellB h rfl,freeB h⟩
/-- What a function leaves that tells a token, how many bytes it has, and an error: the token's place is not told yet. -/
def TokPost (a:Int × Int × List UInt8 × Nat × Int) (w:World) (e:Ending) (w':World):Prop:=
 e = .returned (.tuple #[.agg #[I J a.1,I J a.2.1,.string (bs a.2.2.1),I J 0],I J (a.2.2.2.1:Int),I J a.2.2.2.2]) /\ Below w.heap.size w w'
theorem ret_tok {a:Int × Int × List UInt8 × Nat × Int} {k m z:Int} {t:List UInt8} {n:Nat} {w w':World} (h:a = (k,m,t,n,z)) (hb:Below w.heap.size w w'):TokPost a w (.returned (.tuple #[.agg #[I J k,I J m,.string (bs t),I J 0],I J (n:Int),I J z])) w':=by
 subst h; exact ⟨rfl,hb⟩
theorem ret_wrong {a:Int × Int × List UInt8 × Nat × Int} {z:Int} {w w':World} (h:a = (0,0,[],0,z)) (hb:Below w.heap.size w w'):TokPost a w (.returned (.tuple #[.agg #[I J 0,I J 0,.string ⟨#[]⟩,I J 0],I J 0,I J z])) w':=by
 subst h; exact ⟨rfl,hb⟩
def numA (s:List UInt8):Int × Int × List UInt8 × Nat × Int:=
 match numO s with
 | some n=>(2,(n:Int),[],s.length,0)
 | none=>(0,0,[],0,61)
theorem numA_none {s:List UInt8} (h:numO s = none):numA s = (0,0,[],0,61):=by unfold numA; rw [h]
theorem numA_some {s:List UInt8} {n:Nat} (h:numO s = some n):numA s = (2,(n:Int),[],s.length,0):=by unfold numA; rw [h]
theorem numGo_no {n:Nat} {c:UInt8} {r:List UInt8} (h:isDig c = false):numGo n (c :: r) = none:=by rw [numGo,if_neg (by simp [h])]
theorem numGo_big {n:Nat} {c:UInt8} {r:List UInt8} (h:isDig c = true) (hb:maxC < 10 * n + (c.toNat - 48)):numGo n (c :: r) = none:=by rw [numGo,if_pos h,if_pos hb]
theorem numGo_go {n:Nat} {c:UInt8} {r:List UInt8} (h:isDig c = true) (hb:¬ maxC < 10 * n + (c.toNat - 48)):numGo n (c :: r) = numGo (10 * n + (c.toNat - 48)) r:=by rw [numGo,if_pos h,if_neg hb]
theorem isDig_iff (c:UInt8):isDig c = true ↔ 48 <= c.toNat /\ c.toNat <= 57:=by simp [isDig]
theorem val_int {k:IntKind} {a b:Int} (h:a = b):Value.int k a = .int k b:=by rw [h]
theorem head_at (s:ByteArray) (h:0 < s.size):s.data.toList.head? = some s[0]:=by
 rw [List.head?_eq_getElem?,getElem?_at s 0 h]
theorem eq48 (c:UInt8):c = 48 ↔ c.toNat = 48:=eqN c 48 (by decide)
/-- The place of the answer, and of the look through a text behind it. -/
structure NumAt (w:World) (s:ByteArray) (pos:Nat) (W:World):Prop where
 low:Below w.heap.size w W
 ans:W.heap[w.heap.size]? = some (.cells zero4 166 (0,0))
 iter:W.heap[w.heap.size + 1]? = some (.stringIter s pos)
theorem NumAt.step {w W:World} {s:ByteArray} {pos:Nat} (h:NumAt w s pos W) (q:Nat):NumAt w s q (W.iterAt (w.heap.size + 1) s q):=by
 refine ⟨Lib.below_iterAt h.low (k:=w.heap.size + 1) (by omega) s q,?_,Lib.iterAt_heap W (w.heap.size + 1) s pos q h.iter⟩
 have hb:=Lib.below_iterAt (Below.refl (w.heap.size + 1) W) (k:=w.heap.size + 1) (Nat.le_refl _) s q
 rw [hb.block _ (by omega)]; exact h.ans
theorem numAt_start (w:World) (s:ByteArray):NumAt w s 0 ((w.alloc (.cells zero4 166 (0,0))).alloc (.stringIter s 0)):=by
 refine ⟨((Below.refl _ _).alloc (Nat.le_refl _) _).alloc (by simp) _,?_,?_⟩
 ·have h:=(Below.refl (w.alloc (.cells zero4 166 (0,0))).heap.size (w.alloc (.cells zero4 166 (0,0)))).alloc (Nat.le_refl _) (.stringIter s 0)
  rw [h.block _ (by simp)]; exact heap_alloc_new w _
 ·have h:=heap_alloc_new (w.alloc (.cells zero4 166 (0,0))) (.stringIter s 0)
  simpa using h
theorem number_calls (s:ByteArray) (w:World) :
 Calls Tryz.prog 115 #[.string s] w fun e w'=>TokPost (numA s.data.toList) w e w':=by
 have hres:Tryz.f115.results = #[.cell 2 166,.tmp 3,.tmp 4]:=by kernel_rfl
 by_cases h0:1 < s.size /\ s.data.toList.head? = some 48
 ·have hp:0 < s.size:=by omega
  have HE:Hid (numA s.data.toList = (0,0,[],0,61)):=numA_none (by unfold numO; rw [if_pos (by rw [size_toList]; exact h0)])
  have h1:decide ((1:Int) < (s.size:Int)) = true:=by simp; omega
  have h48:((s[0].toNat:Int) == 48) = true:=by
   rw [head_at s hp] at h0
   have:=(eq48 s[0]).1 (Option.some.inj h0.2)
   rw [beq_iff_eq]; omega
  clear h0
  go_enter Tryz.func115,Tryz.ntmps115
  go_wp2
  refine bodyPost_ret (v:=.tuple #[.agg #[I J 0,I J 0,.string ⟨#[]⟩,I J 0],I J 0,I J 61]) ?_ rfl (ret_wrong HE.out ?_)
  ·simp only [results,hres]
   go_simp
  ·exact (Below.refl _ _).alloc (Nat.le_refl _) _
 have HO:Hid (numO s.data.toList = numGo 0 s.data.toList):=by
  show _ = _
  unfold numO; rw [if_neg (by rw [size_toList]; exact h0)]
 have hbc:(decide ((1:Int) < (s.size:Int)) = false) \/ (∃ _:0 < s.size,decide ((1:Int) < (s.size:Int)) = true /\ ((s[0].toNat:Int) == 48) = false):=by
  by_cases h1:1 < s.size
  ·refine .inr ⟨by omega,by simp; omega,?_⟩
   rw [beq_eq_false_iff_ne]
   intro e
   exact h0 ⟨h1,by rw [head_at s (by omega),(eq48 s[0]).2 (by omega)]⟩
  ·exact .inl (by simp; omega)
 clear h0
 rcases hbc with hb | ⟨hb0,hb1,hb2⟩ <;> (
  go_enter Tryz.func115,Tryz.ntmps115
  go_wp2
  go_loopw [5] (fun v wr=>∃ (pos n:Nat),pos <= s.size /\ n <= maxC /\ v = I J n /\ Hid (numGo n (s.data.toList.drop pos) = numGo 0 s.data.toList) /\ NumAt w s pos wr) (fun _ wr=>s.size - wr.iterPos (w.heap.size + 1))
  case atStart=>exact ⟨0,0,Nat.zero_le _,Nat.zero_le _,rfl,rfl,numAt_start w s⟩
  case round=>
   obtain ⟨pos,n,hp0,hn,rfl,HT,hat⟩:=hrel
   have hpos0:=iterPos_of hat.iter
   unfold maxC at hn
   by_cases hp:pos < s.size
   ·obtain ⟨x,d,hnx,hd1,hd2,hx⟩:=next_rune wr (w.heap.size + 1) s pos hat.iter hp
    have HG:Hid (s.data.toList.drop pos = s[pos] :: s.data.toList.drop (pos + 1)):=drop_at (getElem?_at s pos hp)
    have hat2:=hat.step (pos + d)
    obtain ⟨W1,hW1⟩:∃ W1,W1 = wr.iterAt (w.heap.size + 1) s (pos + d):=⟨_,rfl⟩
    rw [<- hW1] at hnx hat2
    clear hW1 hat
    obtain ⟨z0,z1,z2,z3,zf⟩:=block4 hat2.ans
    have HL:Hid (Below w.heap.size w W1):=hat2.low
    have hcl:clsI x = clsB s[pos]:=rune_cls (by rcases hx with ⟨h,_⟩ | ⟨h1,h2,_⟩; exact .inl h; exact .inr ⟨h1,h2⟩)
    generalize hcx:clsI x = kx at *
    have HC:Hid (∀ w,Calls Tryz.prog 114 #[.int .i32 x] w fun e w'=>e = .returned (I J kx) /\ w' = w):=fun w=>by rw [<- hcx]; exact class_calls x w
    have HW:Hid (numGo n (s[pos] :: s.data.toList.drop (pos + 1)) = none -> numA s.data.toList = (0,0,[],0,61)):=fun h=>numA_none (by rw [HO.out,<- HT.out,HG.out,h])
    clear hcx
    cases hc:isDig s[pos] with
    | false=>
      have hk:(kx != 3) = true:=by
       rw [bne_iff_ne,hcl,ne_eq,cls_dig,hc]; decide
      have HE:Hid (numA s.data.toList = (0,0,[],0,61)):=HW.out (numGo_no hc)
      clear hcl hx hc HT HW HG hat2
      go_wp2_with (go_at_call 114; refine (HC.out _).mono ?_; rintro e w' ⟨rfl,rfl⟩)
      refine bodyPost_ret (v:=.tuple #[.agg #[I J 0,I J 0,.string ⟨#[]⟩,I J 0],I J 0,I J 61]) ?_ rfl (ret_wrong HE.out ?_)
      ·simp only [results,hres]
       go_simp
      ·exact below4 HL.out (Nat.le_refl _) _ _ _ _
    | true=>
      have hdg:=(isDig_iff _).1 hc
      obtain ⟨hg1,hg2⟩:=hdg
      have hk:(kx != 3) = false:=by
       rw [bne_eq_false_iff_eq,hcl,cls_dig,hc]
      obtain ⟨rfl,rfl⟩:x = (s[pos].toNat:Int) /\ d = 1:=by
       rcases hx with ⟨h1,h2,_⟩ | ⟨_,h2,_⟩
       ·exact ⟨h1,h2⟩
       ·omega
      by_cases hbig:maxC < 10 * n + (s[pos].toNat - 48)
      ·have HE:Hid (numA s.data.toList = (0,0,[],0,61)):=HW.out (numGo_big hc hbig)
       unfold maxC at hbig
       have hgt:decide ((72057594037927936:Int) < 10 * (n:Int) + ((s[pos].toNat:Int) - 48)) = true:=by simp; omega
       clear hcl hx hc HT HW HG hat2
       go_wp2_with (go_at_call 114; refine (HC.out _).mono ?_; rintro e w' ⟨rfl,rfl⟩)
       refine bodyPost_ret (v:=.tuple #[.agg #[I J 0,I J 0,.string ⟨#[]⟩,I J 0],I J 0,I J 61]) ?_ rfl (ret_wrong HE.out ?_)
       ·simp only [results,hres]
        go_simp
       ·exact below4 HL.out (Nat.le_refl _) _ _ _ _
      ·have HS:Hid (numGo (10 * n + (s[pos].toNat - 48)) (s.data.toList.drop (pos + 1)) = numGo 0 s.data.toList):=by
        show _ = _
        rw [<- HT.out,HG.out,numGo_go hc hbig]
       have hbig2:=hbig
       unfold maxC at hbig2
       have hgt:decide ((72057594037927936:Int) < 10 * (n:Int) + ((s[pos].toNat:Int) - 48)) = false:=by simp; omega
       have HA:Hid (NumAt w s (pos + 1) W1):=hat2
       clear hcl hx hc HT HW HG hat2 z0 z1 z2 z3 zf
       go_wp2_with (go_at_call 114; refine (HC.out _).mono ?_; rintro e w' ⟨rfl,rfl⟩)
       go_roundw
       case rel=>exact ⟨pos + 1,10 * n + (s[pos].toNat - 48),by omega,by omega,val_int (by omega),HS.out,HA.out⟩
       case measure=>rw [iterPos_of HA.out.iter,hpos0]; omega
   ·have hnx:∀ ty,(Instr.next (.pointer (some ⟨w.heap.size + 1,0,none⟩)) true ty).run Tryz.prog wr = _:=fun ty=>Lib.run_next_end_at wr (w.heap.size + 1) s pos ty hat.iter hp
    have HE:Hid (numA s.data.toList = (2,(n:Int),[],s.size,0)):=by
     have h:=HT.out
     rw [List.drop_eq_nil_of_le (by rw [size_toList]; omega),numGo] at h
     show _ = _
     rw [numA_some (by rw [HO.out,<- h]),size_toList]
    obtain ⟨z0,z1,z2,z3,zf⟩:=block4 hat.ans
    have HL:Hid (Below w.heap.size w wr):=hat.low
    clear hat HT
    go_wp2
    refine bodyPost_ret (v:=.tuple #[.agg #[I J 2,I J n,.string ⟨#[]⟩,I J 0],I J s.size,I J 0]) ?_ rfl (ret_tok (t:=[]) HE.out ?_)
    ·simp only [results,hres]
     go_simp
    ·exact below4 HL.out (Nat.le_refl _) _ _ _ _)
def hasB (c:UInt8) (l:List UInt8):Bool:=decide (c ∈ l)
def headB (c:UInt8) (l:List UInt8):List UInt8:=l.takeWhile (· != c)
def tailB (c:UInt8) (l:List UInt8):List UInt8:=(l.dropWhile (· != c)).tail
theorem headB_cons_eq (c:UInt8) (r:List UInt8):headB c (c :: r) = []:=by simp [headB]
theorem tailB_cons_eq (c:UInt8) (r:List UInt8):tailB c (c :: r) = r:=by simp [tailB]
theorem headB_cons_ne {c d:UInt8} (h:d ≠ c) (r:List UInt8):headB c (d :: r) = d :: headB c r:=by simp [headB,h]
theorem tailB_cons_ne {c d:UInt8} (h:d ≠ c) (r:List UInt8):tailB c (d :: r) = tailB c r:=by simp [tailB,h]
theorem headB_not_mem {c:UInt8}:∀ {l:List UInt8},c ∉ l -> headB c l = l
 | [],_=>rfl
 | d :: r,h=>by
   have h1:d ≠ c:=fun e=>h (by simp [e])
   rw [headB_cons_ne h1,headB_not_mem (fun hm=>h (List.mem_cons_of_mem _ hm))]
theorem tailB_not_mem {c:UInt8}:∀ {l:List UInt8},c ∉ l -> tailB c l = []
 | [],_=>rfl
 | d :: r,h=>by
   have h1:d ≠ c:=fun e=>h (by simp [e])
   rw [tailB_cons_ne h1,tailB_not_mem (fun hm=>h (List.mem_cons_of_mem _ hm))]
theorem head_tail_mem {c:UInt8}:∀ {l:List UInt8},c ∈ l -> l = headB c l ++ c :: tailB c l
 | d :: r,h=>by
   by_cases h1:d = c
   ·subst h1; rw [headB_cons_eq,tailB_cons_eq]; rfl
   ·rw [headB_cons_ne h1,tailB_cons_ne h1,List.cons_append,<- head_tail_mem ((List.mem_cons.1 h).resolve_left fun e=>h1 e.symm)]
theorem indexByte_none (c:UInt8):∀ (l:List UInt8),c ∉ l -> Lib.indexByte l c = -1
 | [],_=>rfl
 | b :: l,h=>by
   have h1:b ≠ c:=fun e=>h (by simp [e])
   simp [Lib.indexByte,h1,indexByte_none c l (fun hm=>h (List.mem_cons_of_mem _ hm))]
theorem indexByte_head (c:UInt8):∀ (l:List UInt8),c ∈ l -> Lib.indexByte l c = ((headB c l).length:Int)
 | b :: l,h=>by
   by_cases h1:b = c
   ·subst h1; rw [headB_cons_eq]; simp [Lib.indexByte]
   ·have ih:=indexByte_head c l ((List.mem_cons.1 h).resolve_left fun e=>h1 e.symm)
    rw [headB_cons_ne h1]
    unfold Lib.indexByte
    rw [ih]
    have h2:¬ ((headB c l).length:Int) = -1:=by omega
    simp [h1,h2]
theorem take_headB {c:UInt8} {l:List UInt8} (h:c ∈ l):l.take (headB c l).length = headB c l:=by
 conv=>lhs; arg 2; rw [head_tail_mem h]
 simp
theorem drop_headB {c:UInt8} {l:List UInt8} (h:c ∈ l):l.drop ((headB c l).length + 1) = tailB c l:=by
 conv=>lhs; arg 2; rw [head_tail_mem h]
 rw [show headB c l ++ c :: tailB c l = (headB c l ++ [c]) ++ tailB c l by simp,show (headB c l).length + 1 = (headB c l ++ [c]).length by simp,List.drop_left]
theorem headB_length_lt {c:UInt8} {l:List UInt8} (h:c ∈ l):(headB c l).length < l.length:=by
 conv=>rhs; rw [head_tail_mem h]
 simp
theorem index1_calls (s:ByteArray) (c:UInt8) (w:World) :
 Calls Tryz.prog 171 #[.string s,.string ⟨#[c]⟩] w fun e w'=>e = .returned (I J (Lib.indexByte s.data.toList c)) /\ w' = w:=by
 have HI:Hid (∀ w,Calls Tryz.prog 160 #[.string s,.int .u8 (c.toNat:Int)] w fun e w'=>e = .returned (I J (Lib.indexByte s.data.toList c)) /\ w' = w):=fun w=>by
  refine (Tryz.stringslite_IndexByte _ _ _).mono ?_
  rintro e w' ⟨rfl,rfl⟩
  exact ⟨by simp,rfl⟩
 by_cases he:([c] == s.toList) = true
 ·have HX:Hid (Lib.indexByte s.data.toList c = 0):=by
   have e:[c] = s.toList:=by simpa using he
   rw [ByteArray.toList_eq] at e
   show Lib.indexByte _ _ = _
   rw [<- e]; simp [Lib.indexByte]
  clear HI
  go_enter Tryz.func171,Tryz.ntmps171
  go_wp2
  go_ret
  exact ⟨ret_int HX.out.symm,rfl⟩
 ·have he2:([c] == s.toList) = false:=by simpa using he
  clear he
  go_enter Tryz.func171,Tryz.ntmps171
  go_wp2_with (go_at_call 160; refine (HI.out _).mono ?_; rintro e w' ⟨rfl,rfl⟩)
  go_ret
  exact ⟨rfl,rfl⟩
theorem ret3 {a b:Value} {x y:Bool} (h:x = y):Ending.returned (.tuple #[a,b,.bool x]) = .returned (.tuple #[a,b,.bool y]):=by rw [h]
theorem extract_list (s:ByteArray) (i j:Nat):(s.extract i j).data.toList = (s.data.toList.take j).drop i:=by
 simp [List.drop_take]
def CutPost (s:ByteArray) (c:UInt8) (w:World) (e:Ending) (w':World):Prop:=
 ∃ a b n,e = .returned (.tuple #[.string a,.string b,.bool (hasB c s.data.toList)]) /\ a.data.toList = headB c s.data.toList /\ b.data.toList = tailB c s.data.toList /\ w' = w.drewN n
theorem liteCut_calls (s:ByteArray) (c:UInt8) (w:World) (hs:s.size <= maxLen) :
 Calls Tryz.prog 162 #[.string s,.string ⟨#[c]⟩] w fun e w'=>CutPost s c w e w':=by
 unfold maxLen at hs
 by_cases hm:c ∈ s.data.toList
 ·have hl:=headB_length_lt hm
  have HI:Hid (∀ w,Calls Tryz.prog 171 #[.string s,.string ⟨#[c]⟩] w fun e w'=>e = .returned (I J ((headB c s.data.toList).length:Int)) /\ w' = w):=fun w=>by
   rw [<- indexByte_head c _ hm]; exact index1_calls s c w
  rw [size_toList] at hl
  have HT:Hid (s.data.toList.take (headB c s.data.toList).length = headB c s.data.toList /\ s.data.toList.drop ((headB c s.data.toList).length + 1) = tailB c s.data.toList):=⟨take_headB hm,drop_headB hm⟩
  generalize (headB c s.data.toList).length = n at *
  have HM:Hid (c ∈ s.data.toList):=hm
  clear hm
  go_enter Tryz.func162,Tryz.ntmps162
  go_wp2_with (go_at_call 171; refine (HI.out _).mono ?_; rintro e w' ⟨rfl,rfl⟩)
  go_quiet (fail)
  go_wp2
  go_ret3
  refine ⟨s.extract 0 n,s.extract (n + 1) s.size,_,ret3 (by simpa [hasB] using HM.out),?_,?_,rfl⟩
  ·rw [extract_list,<- HT.out.1]; simp
  ·rw [extract_list,<- HT.out.2,List.take_of_length_le (by simp)]
 ·have HI:Hid (∀ w,Calls Tryz.prog 171 #[.string s,.string ⟨#[c]⟩] w fun e w'=>e = .returned (I J (-1)) /\ w' = w):=fun w=>by
   rw [<- indexByte_none c _ hm]; exact index1_calls s c w
  have HM:Hid (c ∉ s.data.toList):=hm
  clear hm
  go_enter Tryz.func162,Tryz.ntmps162
  go_wp2_with (go_at_call 171; refine (HI.out _).mono ?_; rintro e w' ⟨rfl,rfl⟩)
  go_ret3
  exact ⟨s,ByteArray.empty,0,ret3 (by simpa [hasB] using HM.out),(headB_not_mem HM.out).symm,(tailB_not_mem HM.out).symm,rfl⟩
theorem cut_calls (s:ByteArray) (c:UInt8) (w:World) (hs:s.size <= maxLen) :
 Calls Tryz.prog 146 #[.string s,.string ⟨#[c]⟩] w fun e w'=>CutPost s c w e w':=by
 have HC:Hid (∀ w,Calls Tryz.prog 162 #[.string s,.string ⟨#[c]⟩] w fun e w'=>CutPost s c w e w'):=fun w=>liteCut_calls s c w hs
 clear hs
 go_enter Tryz.func146,Tryz.ntmps146
 go_wp2_with (go_at_call 162; refine (HC.out _).mono ?_; rintro e w' ⟨a,b,n,rfl,h1,h2,rfl⟩)
 go_ret3
 exact ⟨a,b,n,rfl,h1,h2,rfl⟩
set_option maxHeartbeats 1000000
theorem clone_calls (s:ByteArray) (w:World) (hs:s.size <= 4000) :
 Calls Tryz.prog 161 #[.string s] w fun e w'=>e = .returned (.string s) /\ Below w.heap.size w w':=by
 have HC:Hid (∀ w,Calls Tryz.prog 170 #[.string s] w fun e w'=>e = .returned (.string s) /\ Below w.heap.size w w'):=fun w=>Tryz.stringslite_Clone s w (by omega)
 clear hs
 go_enter Tryz.func161,Tryz.ntmps161
 go_wp2_with (go_at_call 170; refine (HC.out _).mono ?_; rintro e w1 ⟨rfl,hb⟩)
 go_ret
 exact ⟨rfl,hb⟩
theorem token_calls (k:Int) (s:ByteArray) (w:World) (hs:s.size <= 4000) :
 Calls Tryz.prog 145 #[I J k,.string s] w fun e w'=>e = .returned (.agg #[I J k,I J 0,.string s,I J 0]) /\ Below w.heap.size w w':=by
 have hres:Tryz.f145.results = #[.cell 4 166]:=by kernel_rfl
 have HC:Hid (∀ w,Calls Tryz.prog 161 #[.string s] w fun e w'=>e = .returned (.string s) /\ Below w.heap.size w w'):=fun w=>clone_calls s w hs
 clear hs
 go_enter Tryz.func145,Tryz.ntmps145
 go_wp2_with fail
 refine (HC.out _).mono ?_
 rintro e w1 ⟨rfl,hb1⟩
 have hans:w1.heap[w.heap.size]? = some (.cells zero4 166 (0,0)):=by rw [hb1.block _ (by simp)]; exact heap_alloc_new w _
 have HL:Hid (Below w.heap.size w w1):=below_box hb1
 obtain ⟨z0,z1,z2,z3,zf⟩:=block4 hans
 clear hb1 HC hans
 go_wp2
 refine bodyPost_ret (v:=.agg #[I J k,I J 0,.string s,I J 0]) ?_ rfl ⟨rfl,?_⟩
 ·simp only [results,hres]
  go_simp
 ·exact below4 HL.out (Nat.le_refl _) _ _ _ _
def signA (s:List UInt8):Int × Int × List UInt8 × Nat × Int:=(6,0,s,s.length,0)
theorem sign_calls (s:ByteArray) (w:World) (hs:s.size <= 4000) :
 Calls Tryz.prog 119 #[.string s] w fun e w'=>TokPost (signA s.data.toList) w e w':=by
 have hres:Tryz.f119.results = #[.cell 2 166,.tmp 3,.tmp 4]:=by kernel_rfl
 have HC:Hid (∀ k w,Calls Tryz.prog 145 #[I J k,.string s] w fun e w'=>e = .returned (.agg #[I J k,I J 0,.string s,I J 0]) /\ Below w.heap.size w w'):=fun k w=>token_calls k s w hs
 have HE:Hid (signA s.data.toList = (6,0,s.data.toList,s.size,0)):=by
  show _ = _
  unfold signA; rw [size_toList]
 clear hs
 go_enter Tryz.func119,Tryz.ntmps119
 go_wp2_with fail
 refine (HC.out _ _).mono ?_
 rintro e w1 ⟨rfl,hb1⟩
 have hans:w1.heap[w.heap.size]? = some (.cells zero4 166 (0,0)):=by rw [hb1.block _ (by simp)]; exact heap_alloc_new w _
 have HL:Hid (Below w.heap.size w w1):=below_box hb1
 obtain ⟨z0,z1,z2,z3,zf⟩:=block4 hans
 clear hb1 HC hans
 go_wp2
 refine bodyPost_ret (v:=.tuple #[.agg #[I J 6,I J 0,.string s,I J 0],I J s.size,I J 0]) ?_ rfl ?_
 ·simp only [results,hres]
  go_simp
 ·have h:=ret_tok HE.out (below4 HL.out (Nat.le_refl _) (I J 6) (I J 0) (.string s) (I J 0))
  rw [bs_of] at h
  exact h
def namA (s:List UInt8):Int × Int × List UInt8 × Nat × Int:=
 if wordB s then (4,0,s,s.length,0) else if nameB s then (3,0,s,s.length,0) else (0,0,[],0,62)
theorem named_calls (s:ByteArray) (w:World) (hs:s.size <= 4000) :
 Calls Tryz.prog 117 #[.string s] w fun e w'=>TokPost (namA s.data.toList) w e w':=by
 have hres:Tryz.f117.results = #[.cell 2 166,.tmp 3,.tmp 4]:=by kernel_rfl
 have HC:Hid (∀ k w,Calls Tryz.prog 145 #[I J k,.string s] w fun e w'=>e = .returned (.agg #[I J k,I J 0,.string s,I J 0]) /\ Below w.heap.size w w'):=fun k w=>token_calls k s w hs
 clear hs
 cases hw:wordB s.data.toList with
 | true=>
   have HW:Hid (∀ w,Calls Tryz.prog 144 #[.string s] w fun e w'=>e = .returned (.bool true) /\ w' = w):=fun w=>by
    have h:=isWord_calls s w
    rw [hw] at h; exact h
   have HE:Hid (namA s.data.toList = (4,0,s.data.toList,s.size,0)):=by
    show _ = _
    unfold namA; rw [size_toList,if_pos hw]
   clear hw
   go_enter Tryz.func117,Tryz.ntmps117
   go_wp2_with (go_at_call 144; refine (HW.out _).mono ?_; rintro e w' ⟨rfl,rfl⟩)
   refine (HC.out _ _).mono ?_
   rintro e w1 ⟨rfl,hb1⟩
   have hans:w1.heap[w.heap.size]? = some (.cells zero4 166 (0,0)):=by rw [hb1.block _ (by simp)]; exact heap_alloc_new w _
   have HL:Hid (Below w.heap.size w w1):=below_box hb1
   obtain ⟨z0,z1,z2,z3,zf⟩:=block4 hans
   clear hb1 HC hans
   go_wp2
   refine bodyPost_ret (v:=.tuple #[.agg #[I J 4,I J 0,.string s,I J 0],I J s.size,I J 0]) ?_ rfl ?_
   ·simp only [results,hres]
    go_simp
   ·have h:=ret_tok HE.out (below4 HL.out (Nat.le_refl _) (I J 4) (I J 0) (.string s) (I J 0))
    rw [bs_of] at h
    exact h
 | false=>
   have HW:Hid (∀ w,Calls Tryz.prog 144 #[.string s] w fun e w'=>e = .returned (.bool false) /\ w' = w):=fun w=>by
    have h:=isWord_calls s w
    rw [hw] at h; exact h
   cases hn:nameB s.data.toList with
   | true=>
     have HN:Hid (∀ w,Calls Tryz.prog 127 #[.string s] w fun e w'=>e = .returned (.bool true) /\ Below w.heap.size w w'):=fun w=>by
      have h:=isName_calls s w
      rw [hn] at h; exact h
     have HE:Hid (namA s.data.toList = (3,0,s.data.toList,s.size,0)):=by
      show _ = _
      unfold namA; rw [size_toList,if_neg (by rw [hw]; decide),if_pos hn]
     clear hw hn
     go_enter Tryz.func117,Tryz.ntmps117
     go_wp2_with (first
      | (go_at_call 144; refine (HW.out _).mono ?_; rintro e w' ⟨rfl,rfl⟩)
      | (go_at_call 127; refine (HN.out _).mono ?_; rintro e w1 ⟨rfl,hb0⟩))
     refine (HC.out _ _).mono ?_
     rintro e w2 ⟨rfl,hb1⟩
     have hb2:=hb0.trans (hb1.mono hb0.size)
     have hans:w2.heap[w.heap.size]? = some (.cells zero4 166 (0,0)):=by rw [hb2.block _ (by simp)]; exact heap_alloc_new w _
     have HL:Hid (Below w.heap.size w w2):=below_box hb2
     obtain ⟨z0,z1,z2,z3,zf⟩:=block4 hans
     clear hb0 hb1 hb2 HC hans
     go_wp2
     refine bodyPost_ret (v:=.tuple #[.agg #[I J 3,I J 0,.string s,I J 0],I J s.size,I J 0]) ?_ rfl ?_
     ·simp only [results,hres]
      go_simp
     ·have h:=ret_tok HE.out (below4 HL.out (Nat.le_refl _) (I J 3) (I J 0) (.string s) (I J 0))
      rw [bs_of] at h
      exact h
   | false=>
     have HN:Hid (∀ w,Calls Tryz.prog 127 #[.string s] w fun e w'=>e = .returned (.bool false) /\ Below w.heap.size w w'):=fun w=>by
      have h:=isName_calls s w
      rw [hn] at h; exact h
     have HE:Hid (namA s.data.toList = (0,0,[],0,62)):=by
      show _ = _
      unfold namA; rw [if_neg (by rw [hw]; decide),if_neg (by rw [hn]; decide)]
     clear hw hn HC
     go_enter Tryz.func117,Tryz.ntmps117
     go_wp2_with (go_at_call 144; refine (HW.out _).mono ?_; rintro e w' ⟨rfl,rfl⟩)
     refine (HN.out _).mono ?_
     rintro e w1 ⟨rfl,hb0⟩
     have hans:w1.heap[w.heap.size]? = some (.cells zero4 166 (0,0)):=by rw [hb0.block _ (by simp)]; exact heap_alloc_new w _
     have HL:Hid (Below w.heap.size w w1):=below_box hb0
     obtain ⟨z0,z1,z2,z3,zf⟩:=block4 hans
     clear hb0 hans
     go_wp2
     refine bodyPost_ret (v:=.tuple #[.agg #[I J 0,I J 0,.string ⟨#[]⟩,I J 0],I J 0,I J 62]) ?_ rfl (ret_wrong HE.out ?_)
     ·simp only [results,hres]
      go_simp
     ·exact below4 HL.out (Nat.le_refl _) _ _ _ _
set_option maxRecDepth 20000
set_option maxHeartbeats 2000000
theorem below_drewN {B:Nat} {a w:World} (h:Below B a w) (n:Nat):Below B a (w.drewN n):=h.trans ⟨rfl,rfl,rfl,Nat.le_refl _,fun _ _=>rfl⟩
theorem drewN_heap (w:World):∀ n,(w.drewN n).heap = w.heap
 | 0=>rfl
 | n + 1=>by show ((w.drewN n).drew).heap = _; rw [<- drewN_heap w n]; rfl
def textA (r:List UInt8):Int × Int × List UInt8 × Nat × Int:=
 if textOk r then (5,0,innerB r,(innerB r).length + 2,0) else (0,0,[],0,63)
theorem textA_no {r:List UInt8} (h:textOk r = false):textA r = (0,0,[],0,63):=by unfold textA; rw [if_neg (by rw [h]; decide)]
theorem all_step {p:UInt8 -> Bool} {S:List UInt8} {k:Nat} {c:UInt8} (h:S[k]? = some c) (ha:(S.take k).all p = true) (hc:p c = true):(S.take (k + 1)).all p = true:=by
 obtain ⟨hlt,he⟩:=List.getElem?_eq_some_iff.1 h
 rw [List.take_succ_eq_append_getElem hlt,he,List.all_append,ha]; simp [hc]
theorem all_no {p:UInt8 -> Bool} {S:List UInt8} {k:Nat} {c:UInt8} (h:S[k]? = some c) (hc:p c = false):S.all p = false:=by
 cases hx:S.all p with
 | false=>rfl
 | true=>rw [List.all_eq_true.1 hx c (List.mem_of_getElem? h)] at hc; cases hc
/-- The place of the answer, and of the look through a text behind it. -/
theorem numAt_behind {w w1:World} (s:ByteArray) (hl:Below w.heap.size w w1) (ha:w1.heap[w.heap.size]? = some (.cells zero4 166 (0,0))) (hz:w1.heap.size = w.heap.size + 1):NumAt w s 0 (w1.alloc (.stringIter s 0)):=by
 refine ⟨hl.alloc (by omega) _,?_,?_⟩
 ·have h:=(Below.refl w1.heap.size w1).alloc (Nat.le_refl _) (.stringIter s 0)
  rw [h.block _ (by omega)]; exact ha
 ·have h:=heap_alloc_new w1 (.stringIter s 0)
  rw [hz] at h; exact h
theorem text_calls (s:ByteArray) (w:World) (hs:s.size <= 4000) (hp:0 < s.size) :
 Calls Tryz.prog 118 #[.string s] w fun e w'=>TokPost (textA (s.data.toList.drop 1)) w e w':=by
 have hres:Tryz.f118.results = #[.cell 2 166,.tmp 3,.tmp 4]:=by kernel_rfl
 have hx:(s.extract 1 s.size).data.toList = s.data.toList.drop 1:=by
  rw [extract_list,List.take_of_length_le (by simp)]
 generalize hR:s.data.toList.drop 1 = R at *
 have hRl:R.length <= 3999:=by rw [<- hR,List.length_drop,size_toList]; omega
 have HC:Hid (∀ w,Calls Tryz.prog 146 #[.string (s.extract 1 s.size),.string ⟨#[34]⟩] w fun e w'=>CutPost (s.extract 1 s.size) 34 w e w'):=fun w=>cut_calls _ 34 w (by
  have h:=size_toList (s.extract 1 s.size)
  rw [hx] at h
  unfold maxLen; omega)
 have HX:Hid ((s.extract 1 s.size).data.toList = R):=hx
 clear hx hR
 go_enter Tryz.func118,Tryz.ntmps118
 go_wp2_with fail
 refine (HC.out _).mono ?_
 rintro e w1 ⟨a,b,n,rfl,ha,hb,rfl⟩
 rw [HX.out] at ha hb ⊢
 clear hb
 have hal:a.data.toList = innerB R:=ha
 have hasz:a.size = (innerB R).length:=by rw [<- size_toList,hal]
 have hsm:a.size <= 3999:=by rw [hasz]; exact Nat.le_trans (innerB_le R) hRl
 have hans:((w.alloc (.cells zero4 166 (0,0))).drewN n).heap[w.heap.size]? = some (.cells zero4 166 (0,0)):=by rw [drewN_heap]; exact heap_alloc_new w _
 have hlow:Below w.heap.size w ((w.alloc (.cells zero4 166 (0,0))).drewN n):=below_drewN ((Below.refl _ _).alloc (Nat.le_refl _) _) n
 have hsz:((w.alloc (.cells zero4 166 (0,0))).drewN n).heap.size = w.heap.size + 1:=by rw [drewN_heap]; simp
 have e0:(w.alloc (.cells zero4 166 (0,0))).drewN n = (w.alloc (.cells #[I J 0,I J 0,.string ⟨#[]⟩,I J 0] 166 (0,0))).drewN n:=rfl
 rw [e0] at hans hlow hsz
 generalize (w.alloc (.cells #[I J 0,I J 0,.string ⟨#[]⟩,I J 0] 166 (0,0))).drewN n = W at *
 have HT:Hid (textOk R = (hasB 34 R && (decide (a.size <= 40) && a.data.toList.all inText))):=by
  show _ = _
  rw [hasz,hal]; rfl
 have HI:Hid (a.data.toList = innerB R):=hal
 clear ha hal e0 HC HX hasz
 by_cases hno:hasB 34 R = false \/ 40 < a.size
 ·have HE:Hid (textA R = (0,0,[],0,63)):=textA_no (by
   rw [HT.out]
   rcases hno with h | h
   ·rw [h]; rfl
   ·rw [show decide (a.size <= 40) = false by simp; omega]; simp)
  obtain ⟨z0,z1,z2,z3,zf⟩:=block4 hans
  have HL:Hid (Below w.heap.size w W):=hlow
  have hq:hasB 34 R = false \/ (hasB 34 R = true /\ decide ((40:Int) < (a.size:Int)) = true):=by
   cases hh:hasB 34 R with
   | false=>exact .inl rfl
   | true=>
     rw [hh] at hno
     exact .inr ⟨rfl,by simp at hno ⊢; omega⟩
  clear hno hans hlow HT
  generalize hasB 34 R = f at *
  rcases hq with rfl | ⟨rfl,h40⟩ <;> (
   go_wp2
   refine bodyPost_ret (v:=.tuple #[.agg #[I J 0,I J 0,.string ⟨#[]⟩,I J 0],I J 0,I J 63]) ?_ rfl (ret_wrong HE.out ?_)
   ·simp only [results,hres]
    go_simp
   ·exact below4 HL.out (Nat.le_refl _) _ _ _ _)
 have hyes:hasB 34 R = true /\ a.size <= 40:=by
  cases hh:hasB 34 R with
  | false=>exact absurd (.inl hh) hno
  | true=>exact ⟨rfl,by rw [hh] at hno; simp at hno; omega⟩
 have h40:decide ((40:Int) < (a.size:Int)) = false:=by simp; omega
 have HT2:Hid (textOk R = a.data.toList.all inText):=by
  show _ = _
  rw [HT.out,hyes.1,show decide (a.size <= 40) = true by simp; omega]; rfl
 have HZ:Hid (NumAt w a 0 (W.alloc (.stringIter a 0))):=numAt_behind a hlow hans hsz
 have hhas:=hyes.1
 clear hno hyes HT hlow hans
 generalize hasB 34 R = f at *
 subst hhas
 go_wp2
 go_loopw [] (fun wr=>∃ (pos:Nat),pos <= a.size /\ (a.data.toList.take pos).all inText = true /\ NumAt w a pos wr) (fun wr=>a.size - wr.iterPos (w.heap.size + 1))
 case atStart=>exact ⟨0,Nat.zero_le _,by simp,HZ.out⟩
 case round=>
  obtain ⟨pos,hp0,hr,hat⟩:=hrel
  have HR:Hid ((a.data.toList.take pos).all inText = true):=hr
  have hpos0:=iterPos_of hat.iter
  clear hr HZ
  by_cases hp:pos < a.size
  ·obtain ⟨x,d,hnx,hd1,hd2,hx⟩:=next_rune wr (w.heap.size + 1) a pos hat.iter hp
   have HG:Hid (a.data.toList[pos]? = some a[pos]):=getElem?_at a pos hp
   have hat2:=hat.step (pos + d)
   obtain ⟨W1,hW1⟩:∃ W1,W1 = wr.iterAt (w.heap.size + 1) a (pos + d):=⟨_,rfl⟩
   rw [<- hW1] at hnx hat2
   clear hW1 hat
   obtain ⟨z0,z1,z2,z3,zf⟩:=block4 hat2.ans
   have HL:Hid (Below w.heap.size w W1):=hat2.low
   have hin:inText a[pos] = true ↔ 32 <= x /\ x <= 126:=by
    simp only [inText,Bool.and_eq_true,decide_eq_true_eq]
    rcases hx with ⟨h,_⟩ | ⟨h1,h2,_⟩ <;> omega
   cases hc:inText a[pos] with
   | false=>
     have HE:Hid (textA R = (0,0,[],0,63)):=textA_no (by rw [HT2.out,all_no HG.out hc])
     have hq:decide (x < 32) = true \/ (decide (x < 32) = false /\ decide ((126:Int) < x) = true):=by
      rw [hc] at hin
      simp at hin ⊢
      omega
     clear hin hx hc HG hat2 HR HT2
     rcases hq with h1 | ⟨h1,h2⟩ <;> (
      go_wp2
      refine bodyPost_ret (v:=.tuple #[.agg #[I J 0,I J 0,.string ⟨#[]⟩,I J 0],I J 0,I J 63]) ?_ rfl (ret_wrong HE.out ?_)
      ·simp only [results,hres]
       go_simp
      ·exact below4 HL.out (Nat.le_refl _) _ _ _ _)
   | true=>
     have hr:=hin.1 hc
     have h1:decide (x < 32) = false:=by simp; omega
     have h2:decide ((126:Int) < x) = false:=by simp; omega
     obtain rfl:d = 1:=by
      rcases hx with ⟨_,h,_⟩ | ⟨h,_,_⟩
      ·exact h
      ·omega
     have HS:Hid ((a.data.toList.take (pos + 1)).all inText = true):=all_step HG.out HR.out hc
     have HA:Hid (NumAt w a (pos + 1) W1):=hat2
     clear hin hx hc HG hat2 HR HT2 hr z0 z1 z2 z3 zf
     go_wp2
     go_roundw
     case rel=>exact ⟨pos + 1,by omega,HS.out,HA.out⟩
     case measure=>rw [iterPos_of HA.out.iter,hpos0]; omega
  ·have hnx:∀ ty,(Instr.next (.pointer (some ⟨w.heap.size + 1,0,none⟩)) true ty).run Tryz.prog wr = _:=fun ty=>Lib.run_next_end_at wr (w.heap.size + 1) a pos ty hat.iter hp
   have HE:Hid (textA R = (5,0,a.data.toList,a.size + 2,0)):=by
    have h:=HR.out
    rw [List.take_of_length_le (by rw [size_toList]; omega)] at h
    show _ = _
    unfold textA
    rw [if_pos (by rw [HT2.out,h]),<- HI.out,size_toList]
   have HK:Hid (∀ w,Calls Tryz.prog 145 #[I J 5,.string a] w fun e w'=>e = .returned (.agg #[I J 5,I J 0,.string a,I J 0]) /\ Below w.heap.size w w'):=fun w=>token_calls 5 a w (by omega)
   have hat':=hat
   clear hat HT2 HR
   go_wp2_with fail
   refine (HK.out _).mono ?_
   rintro e w2 ⟨rfl,hb2⟩
   obtain ⟨z0,z1,z2,z3,zf⟩:=block4 (keepB hat'.ans hb2)
   have HL:Hid (Below w.heap.size w w2):=hat'.low.trans (hb2.mono hat'.low.size)
   clear hat' hb2 HK hnx
   go_wp2
   refine bodyPost_ret (v:=.tuple #[.agg #[I J 5,I J 0,.string a,I J 0],I J ((a.size + 2:Nat):Int),I J 0]) ?_ rfl ?_
   ·simp only [results,hres]
    go_simp
   ·have h:=ret_tok HE.out (below4 HL.out (Nat.le_refl _) (I J 5) (I J 0) (.string a) (I J 0))
    rw [bs_of] at h
    exact h
end Go.Proofs.YtbbbnopganhebabGreat
