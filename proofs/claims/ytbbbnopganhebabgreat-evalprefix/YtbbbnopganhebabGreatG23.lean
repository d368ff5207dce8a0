/-
  The walk of first. And what follows.
-/
import Derived.Test.YtbbbnopganhebabGreatG22
namespace Go.Proofs.YtbbbnopganhebabGreat
open Go.RowKit
open Go.Value renaming int->I
open Go.IntKind renaming i64->J
set_option maxRecDepth 20000
set_option maxHeartbeats 4000000
def firstA (s:List UInt8):Int × Int × List UInt8 × Nat × Int:=
 if errB s = 0 then (kindB s,(numB s:Int),textB s,lenB s,0) else (0,0,[],0,errB s)
section
variable {c:UInt8} {r:List UInt8}
theorem first_dig (h:isDig c = true):firstA (c :: r) = numA (runB (c :: r)):=by
 have hp:=dig_part h
 unfold firstA numA
 simp only [errB,kindB,numB,textB,lenB,h,hp,if_true]
 cases numO (runB (c :: r)) with
 | none=>simp
 | some n=>simp
theorem first_part (hd:isDig c = false) (h:isPart c = true):firstA (c :: r) = namA (runB (c :: r)):=by
 unfold firstA namA
 simp only [errB,kindB,numB,textB,lenB,hd,h,if_true]
 cases wordB (runB (c :: r)) <;> cases nameB (runB (c :: r)) <;> simp
theorem quote_no:isDig 34 = false /\ isPart 34 = false:=by decide
theorem first_quote:firstA (34 :: r) = textA r:=by
 unfold firstA textA
 simp only [errB,kindB,numB,textB,lenB,quote_no.1,quote_no.2]
 cases textOk r <;> simp
theorem first_mark (hd:isPart c = false) (hq:c ≠ 34) (h:isMark c = true):firstA (c :: r) = signA [c]:=by
 have hg:isDig c = false:=by
  cases hx:isDig c with
  | false=>rfl
  | true=>rw [dig_part hx] at hd; cases hd
 unfold firstA signA
 simp [errB,kindB,numB,textB,lenB,hd,hg,hq,h]
theorem point_no:isDig 46 = false /\ isPart 46 = false /\ isMark 46 = false:=by decide
theorem first_points:firstA (46 :: 46 :: r) = signA [46,46]:=by
 unfold firstA signA
 simp [errB,kindB,numB,textB,lenB,point_no]
theorem first_point (h:r.head? ≠ some 46):firstA (46 :: r) = (0,0,[],0,60):=by
 unfold firstA
 simp [errB,point_no,h]
theorem first_stray (hp:isPart c = false) (hq:c ≠ 34) (hm:isMark c = false) (hd:c ≠ 46):firstA (c :: r) = (0,0,[],0,60):=by
 have hg:isDig c = false:=by
  cases hx:isDig c with
  | false=>rfl
  | true=>rw [dig_part hx] at hp; cases hp
 unfold firstA
 simp [errB,hg,hp,hq,hm,hd]
end
theorem prefix_points (c:UInt8) (r:List UInt8) (h:c = 46):Lib.hasPrefix (c :: r) [46,46] = decide (r.head? = some 46):=by
 subst h
 cases r with
 | nil=>rfl
 | cons d r=>
   by_cases h2:d = 46
   ·subst h2; simp [Lib.hasPrefix,List.isPrefixOf]
   ·simp [Lib.hasPrefix,List.isPrefixOf,h2,Ne.symm h2]
theorem first_calls (s:ByteArray) (w:World) (hs:s.size <= 4000) (hp:0 < s.size) :
 Calls Tryz.prog 83 #[.string s] w fun e w'=>TokPost (firstA s.data.toList) w e w':=by
 have hres:Tryz.f83.results = #[.cell 2 166,.tmp 3,.tmp 4]:=by kernel_rfl
 have hS:s.data.toList = s[0] :: s.data.toList.drop 1:=by
  have:=drop_at (getElem?_at s 0 hp)
  simpa using this
 have hu8:=UInt8.toNat_lt s[0]
 have HC:Hid (∀ w,Calls Tryz.prog 114 #[.int .i32 (s[0].toNat:Int)] w fun e w'=>e = .returned (I J (clsB s[0])) /\ w' = w):=fun w=>class_calls _ w
 have hrn:(runB s.data.toList).length <= s.size:=by rw [<- size_toList]; exact runB_le _
 have HR:Hid (∀ w,Calls Tryz.prog 116 #[.string s] w fun e w'=>e = .returned (I J ((runB s.data.toList).length:Int)) /\ Below w.heap.size w w'):=fun w=>run_calls s w
 have hrx:(s.extract 0 (runB s.data.toList).length).data.toList = runB s.data.toList:=by
  rw [extract_list,List.drop_zero,runB_take]
 have hrz:(s.extract 0 (runB s.data.toList).length).size = (runB s.data.toList).length:=by rw [<- size_toList,hrx]
 have HN:Hid (∀ w,Calls Tryz.prog 115 #[.string (s.extract 0 (runB s.data.toList).length)] w fun e w'=>TokPost (numA (runB s.data.toList)) w e w'):=fun w=>by
  have h:=number_calls (s.extract 0 (runB s.data.toList).length) w
  rw [hrx] at h; exact h
 have HM:Hid (∀ w,Calls Tryz.prog 117 #[.string (s.extract 0 (runB s.data.toList).length)] w fun e w'=>TokPost (namA (runB s.data.toList)) w e w'):=fun w=>by
  have h:=named_calls (s.extract 0 (runB s.data.toList).length) w (by rw [hrz]; omega)
  rw [hrx] at h; exact h
 have HT:Hid (∀ w,Calls Tryz.prog 118 #[.string s] w fun e w'=>TokPost (textA (s.data.toList.drop 1)) w e w'):=fun w=>text_calls s w hs hp
 have HG1:Hid (∀ w,Calls Tryz.prog 119 #[.string (s.extract 0 1)] w fun e w'=>TokPost (signA [s[0]]) w e w'):=fun w=>by
  have hx:(s.extract 0 1).data.toList = [s[0]]:=by rw [extract_list,List.drop_zero,hS]; rfl
  have h:=sign_calls (s.extract 0 1) w (by rw [<- size_toList,hx]; simp)
  rw [hx] at h; exact h
 cases hpt:isPart s[0] with
 | true=>
   cases hdg:isDig s[0] with
   | true=>
     have HE:Hid (firstA s.data.toList = numA (runB s.data.toList)):=by
      show _ = _
      rw [hS]; exact first_dig hdg
     have hk:(clsB s[0] == 3) = true:=by rw [beq_iff_eq,cls_dig]; exact hdg
     clear hS hrx hrz HM HT HG1  hpt hdg
     generalize numA (runB s.data.toList) = A at *
     generalize firstA s.data.toList = F at *
     generalize (runB s.data.toList).length = n at *
     generalize clsB s[0] = kx at *
     go_enter Tryz.func83,Tryz.ntmps83
     go_wp2_with (go_at_call 114; refine (HC.out _).mono ?_; rintro e w' ⟨rfl,rfl⟩)
     refine (HR.out _).mono ?_
     rintro e w1 ⟨rfl,hb1⟩
     go_wp2_with fail
     refine (HN.out _).mono ?_
     rintro e w2 ⟨rfl,hb2⟩
     have hb3:=hb1.trans (hb2.mono hb1.size)
     have hans:w2.heap[w.heap.size]? = some (.cells zero4 166 (0,0)):=by rw [hb3.block _ (by simp)]; exact heap_alloc_new w _
     have HL:Hid (Below w.heap.size w w2):=below_box hb3
     obtain ⟨z0,z1,z2,z3,zf⟩:=block4 hans
     clear hb1 hb2 hb3 hans HC HR HN
     go_wp2
     refine bodyPost_ret (v:=.tuple #[.agg #[I J A.1,I J A.2.1,.string (bs A.2.2.1),I J 0],I J (A.2.2.2.1:Int),I J A.2.2.2.2]) ?_ rfl ?_
     ·simp only [results,hres]
      go_simp
     ·rw [HE.out]
      exact ⟨rfl,below4 HL.out (Nat.le_refl _) _ _ _ _⟩
   | false=>
     have HE:Hid (firstA s.data.toList = namA (runB s.data.toList)):=by
      show _ = _
      rw [hS]; exact first_part hdg hpt
     have hk3:(clsB s[0] == 3) = false:=by rw [beq_eq_false_iff_ne,ne_eq,cls_dig,hdg]; decide
     have hk:(clsB s[0] == 4) = true \/ ((clsB s[0] == 4) = false /\ (clsB s[0] == 5) = true) \/ ((clsB s[0] == 4) = false /\ (clsB s[0] == 5) = false /\ (clsB s[0] == 6) = true):=by
      have h1:=(cls_part s[0]).1 hpt
      simp only [beq_iff_eq,beq_eq_false_iff_ne,ne_eq] at hk3 ⊢
      omega
     clear hS hrx hrz HN HT HG1 hpt hdg
     generalize namA (runB s.data.toList) = A at *
     generalize firstA s.data.toList = F at *
     generalize (runB s.data.toList).length = n at *
     generalize clsB s[0] = kx at *
     rcases hk with h4 | ⟨h4,h5⟩ | ⟨h4,h5,h6⟩ <;> (
      go_enter Tryz.func83,Tryz.ntmps83
      go_wp2_with (go_at_call 114; refine (HC.out _).mono ?_; rintro e w' ⟨rfl,rfl⟩)
      refine (HR.out _).mono ?_
      rintro e w1 ⟨rfl,hb1⟩
      go_wp2_with fail
      refine (HM.out _).mono ?_
      rintro e w2 ⟨rfl,hb2⟩
      have hb3:=hb1.trans (hb2.mono hb1.size)
      have hans:w2.heap[w.heap.size]? = some (.cells zero4 166 (0,0)):=by rw [hb3.block _ (by simp)]; exact heap_alloc_new w _
      have HL:Hid (Below w.heap.size w w2):=below_box hb3
      obtain ⟨z0,z1,z2,z3,zf⟩:=block4 hans
      clear hb1 hb2 hb3 hans HC HR HM
      go_wp2
      refine bodyPost_ret (v:=.tuple #[.agg #[I J A.1,I J A.2.1,.string (bs A.2.2.1),I J 0],I J (A.2.2.2.1:Int),I J A.2.2.2.2]) ?_ rfl ?_
      ·simp only [results,hres]
       go_simp
      ·rw [HE.out]
       exact ⟨rfl,below4 HL.out (Nat.le_refl _) _ _ _ _⟩)
 | false=>
   have hnp:¬ (clsB s[0] = 4 \/ clsB s[0] = 5 \/ clsB s[0] = 3 \/ clsB s[0] = 6):=by rw [<- cls_part,hpt]; decide
   have hk3:(clsB s[0] == 3) = false:=by rw [beq_eq_false_iff_ne]; omega
   have hk4:(clsB s[0] == 4) = false:=by rw [beq_eq_false_iff_ne]; omega
   have hk5:(clsB s[0] == 5) = false:=by rw [beq_eq_false_iff_ne]; omega
   have hk6:(clsB s[0] == 6) = false:=by rw [beq_eq_false_iff_ne]; omega
   clear hnp hrx hrz HN HM HR hrn
   by_cases hq:s[0] = 34
   ·have hk7:(clsB s[0] == 7) = true:=by rw [beq_iff_eq,cls_quote]; exact hq
    have HE:Hid (firstA s.data.toList = textA (s.data.toList.drop 1)):=by
     show _ = _
     conv=>lhs; rw [hS,hq]
     exact first_quote
    clear hS HG1 hpt hq
    generalize textA (s.data.toList.drop 1) = A at *
    generalize firstA s.data.toList = F at *
    generalize clsB s[0] = kx at *
    go_enter Tryz.func83,Tryz.ntmps83
    go_wp2_with (go_at_call 114; refine (HC.out _).mono ?_; rintro e w' ⟨rfl,rfl⟩)
    refine (HT.out _).mono ?_
    rintro e w2 ⟨rfl,hb3⟩
    have hans:w2.heap[w.heap.size]? = some (.cells zero4 166 (0,0)):=by rw [hb3.block _ (by simp)]; exact heap_alloc_new w _
    have HL:Hid (Below w.heap.size w w2):=below_box hb3
    obtain ⟨z0,z1,z2,z3,zf⟩:=block4 hans
    clear hb3 hans HC
    go_wp2
    refine bodyPost_ret (v:=.tuple #[.agg #[I J A.1,I J A.2.1,.string (bs A.2.2.1),I J 0],I J (A.2.2.2.1:Int),I J A.2.2.2.2]) ?_ rfl ?_
    ·simp only [results,hres]
     go_simp
    ·rw [HE.out]
     exact ⟨rfl,below4 HL.out (Nat.le_refl _) _ _ _ _⟩
   have hk7:(clsB s[0] == 7) = false:=by rw [beq_eq_false_iff_ne,ne_eq,cls_quote]; exact hq
   clear HT
   cases hm:isMark s[0] with
   | true=>
     have hk8:(clsB s[0] == 8) = true:=by rw [beq_iff_eq,cls_mark]; exact hm
     have HE:Hid (firstA s.data.toList = signA [s[0]]):=by
      show _ = _
      rw [hS]; exact first_mark hpt hq hm
     clear hS hpt hq hm
     generalize signA [s[0]] = A at *
     generalize firstA s.data.toList = F at *
     generalize clsB s[0] = kx at *
     go_enter Tryz.func83,Tryz.ntmps83
     go_wp2_with (go_at_call 114; refine (HC.out _).mono ?_; rintro e w' ⟨rfl,rfl⟩)
     refine (HG1.out _).mono ?_
     rintro e w2 ⟨rfl,hb3⟩
     have hans:w2.heap[w.heap.size]? = some (.cells zero4 166 (0,0)):=by rw [hb3.block _ (by simp)]; exact heap_alloc_new w _
     have HL:Hid (Below w.heap.size w w2):=below_box hb3
     obtain ⟨z0,z1,z2,z3,zf⟩:=block4 hans
     clear hb3 hans HC
     go_wp2
     refine bodyPost_ret (v:=.tuple #[.agg #[I J A.1,I J A.2.1,.string (bs A.2.2.1),I J 0],I J (A.2.2.2.1:Int),I J A.2.2.2.2]) ?_ rfl ?_
     ·simp only [results,hres]
      go_simp
     ·rw [HE.out]
      exact ⟨rfl,below4 HL.out (Nat.le_refl _) _ _ _ _⟩
   | false=>
     have hk8:(clsB s[0] == 8) = false:=by rw [beq_eq_false_iff_ne,ne_eq,cls_mark,hm]; decide
     clear HG1
     by_cases hpo:s[0] = 46
     ·have hk9:(clsB s[0] == 9) = true:=by rw [beq_iff_eq,cls_point]; exact hpo
      have HP:Hid (∀ w,Calls Tryz.prog 120 #[.string s,.string ⟨#[46,46]⟩] w fun e w'=>e = .returned (.bool (decide ((s.data.toList.drop 1).head? = some 46))) /\ w' = w):=fun w=>by
       have h:=Tryz.strings_HasPrefix s ⟨#[46,46]⟩ w
       have e:Lib.hasPrefix s.data.toList (⟨#[46,46]⟩:ByteArray).data.toList = decide ((s.data.toList.drop 1).head? = some 46):=by
        conv=>lhs; rw [hS]
        exact prefix_points _ _ hpo
       rw [e] at h; exact h
      by_cases h2:(s.data.toList.drop 1).head? = some 46
      ·have h2s:2 <= s.size:=by
        cases hd:s.data.toList.drop 1 with
        | nil=>rw [hd] at h2; cases h2
        | cons d t=>
          have:=congrArg List.length hd
          rw [List.length_drop,size_toList,List.length_cons] at this
          omega
       have hx2:(s.extract 0 2).data.toList = [46,46]:=by
        rw [extract_list,List.drop_zero,hS,hpo]
        cases hd:s.data.toList.drop 1 with
        | nil=>rw [hd] at h2; cases h2
        | cons d t=>rw [hd] at h2; simp at h2; subst h2; rfl
       have HG2:Hid (∀ w,Calls Tryz.prog 119 #[.string (s.extract 0 2)] w fun e w'=>TokPost (signA [46,46]) w e w'):=fun w=>by
        have h:=sign_calls (s.extract 0 2) w (by rw [<- size_toList,hx2]; decide)
        rw [hx2] at h; exact h
       have HE:Hid (firstA s.data.toList = signA [46,46]):=by
        show _ = _
        rw [hS,hpo]
        cases hd:s.data.toList.drop 1 with
        | nil=>rw [hd] at h2; cases h2
        | cons d t=>rw [hd] at h2; simp at h2; subst h2; exact first_points
       have hyes:decide ((s.data.toList.drop 1).head? = some 46) = true:=by simpa using h2
       rw [hyes] at HP
       clear hS hpt hq hm hpo h2 hx2 hyes
       generalize signA [46,46] = A at *
       generalize firstA s.data.toList = F at *
       generalize clsB s[0] = kx at *
       go_enter Tryz.func83,Tryz.ntmps83
       go_wp2_with (first
        | (go_at_call 114; refine (HC.out _).mono ?_; rintro e w' ⟨rfl,rfl⟩)
        | (go_at_call 120; refine (HP.out _).mono ?_; rintro e w' ⟨rfl,rfl⟩))
       refine (HG2.out _).mono ?_
       rintro e w2 ⟨rfl,hb3⟩
       have hans:w2.heap[w.heap.size]? = some (.cells zero4 166 (0,0)):=by rw [hb3.block _ (by simp)]; exact heap_alloc_new w _
       have HL:Hid (Below w.heap.size w w2):=below_box hb3
       obtain ⟨z0,z1,z2,z3,zf⟩:=block4 hans
       clear hb3 hans HC
       go_wp2
       refine bodyPost_ret (v:=.tuple #[.agg #[I J A.1,I J A.2.1,.string (bs A.2.2.1),I J 0],I J (A.2.2.2.1:Int),I J A.2.2.2.2]) ?_ rfl ?_
       ·simp only [results,hres]
        go_simp
       ·rw [HE.out]
        exact ⟨rfl,below4 HL.out (Nat.le_refl _) _ _ _ _⟩
      ·have HE:Hid (firstA s.data.toList = (0,0,[],0,60)):=by
        show _ = _
        rw [hS,hpo]; exact first_point h2
       have hno:decide ((s.data.toList.drop 1).head? = some 46) = false:=by simpa using h2
       rw [hno] at HP
       clear hS hpt hq hm hpo h2 hno
       generalize firstA s.data.toList = F at *
       generalize clsB s[0] = kx at *
       go_enter Tryz.func83,Tryz.ntmps83
       go_wp2_with (first
        | (go_at_call 114; refine (HC.out _).mono ?_; rintro e w' ⟨rfl,rfl⟩)
        | (go_at_call 120; refine (HP.out _).mono ?_; rintro e w' ⟨rfl,rfl⟩))
       refine bodyPost_ret (v:=.tuple #[.agg #[I J 0,I J 0,.string ⟨#[]⟩,I J 0],I J 0,I J 60]) ?_ rfl (ret_wrong HE.out ?_)
       ·simp only [results,hres]
        go_simp
       ·exact (Below.refl _ _).alloc (Nat.le_refl _) _
     ·have hk9:(clsB s[0] == 9) = false:=by rw [beq_eq_false_iff_ne,ne_eq,cls_point]; exact hpo
      have HE:Hid (firstA s.data.toList = (0,0,[],0,60)):=by
       show _ = _
       rw [hS]; exact first_stray hpt hq hm hpo
      clear hS hpt hq hm hpo
      generalize firstA s.data.toList = F at *
      generalize clsB s[0] = kx at *
      go_enter Tryz.func83,Tryz.ntmps83
      go_wp2_with (go_at_call 114; refine (HC.out _).mono ?_; rintro e w' ⟨rfl,rfl⟩)
      refine bodyPost_ret (v:=.tuple #[.agg #[I J 0,I J 0,.string ⟨#[]⟩,I J 0],I J 0,I J 60]) ?_ rfl (ret_wrong HE.out ?_)
      ·simp only [results,hres]
       go_simp
      ·exact (Below.refl _ _).alloc (Nat.le_refl _) _
set_option maxRecDepth 20000
set_option maxHeartbeats 4000000
theorem cell_tk_new (W:World) (t:Tk):∀ (i:Nat) (u:Value),(tkCells t)[i]? = some u -> (W.alloc (.cells #[I J t.kind,I J t.num,.string (bs t.text),I J (t.pl:Int)] 166)).cell? ((⟨W.heap.size,0,none⟩:Addr).add i) = some u:=by
 intro i u hu
 have hadd:(⟨W.heap.size,0,none⟩:Addr).add i = ⟨W.heap.size,i,none⟩:=by unfold Addr.add; split <;> simp_all
 rw [hadd,cell_of_row _ W.heap.size i _ 166 (0,0) (heap_alloc_new W _)]
 have h2:(#[I J t.kind,I J t.num,.string (bs t.text),I J (t.pl:Int)]:Array Value).toList = tkCells t:=rfl
 rw [<- Array.getElem?_toList,h2]; exact hu
theorem cell_tk_new2 (W:World) (o:Obj) (t:Tk) (i:Nat) (u:Value) (hu:(tkCells t)[i]? = some u):((W.alloc o).alloc (.cells #[I J t.kind,I J t.num,.string (bs t.text),I J (t.pl:Int)] 166)).cell? ((⟨W.heap.size + 1,0,none⟩:Addr).add i) = some u:=by
 have h:=cell_tk_new (W.alloc o) t i u hu
 rwa [show (W.alloc o).heap.size = W.heap.size + 1 by simp] at h
/-- What Scan leaves. -/
def ScanPost (a:List Tk × Nat × Int) (w:World) (e:Ending) (w':World):Prop:=
 ∃ v,e = .returned (.tuple #[v,I J (a.2.1:Int),I J a.2.2]) /\ w'.ownsRow w.heap.size 166 4 v a.1.length (rowCells a.1) /\ Below w.heap.size w w'
theorem scan_none {a:List Tk × Nat × Int} {w w':World} {p:Nat} {z:Int} (h:a = ([],p,z)) (hb:Below w.heap.size w w'):ScanPost a w (.returned (.tuple #[.slice none 0 0,I J (p:Int),I J z])) w':=by
 subst h
 exact ⟨_,rfl,owned_none_nil _ _,hb⟩
theorem drop_list (s:ByteArray) (p:Nat):(s.extract p s.size).data.toList = s.data.toList.drop p:=by
 rw [extract_list,List.take_of_length_le (by simp)]
theorem drop_size (s:ByteArray) (p:Nat):(s.extract p s.size).size = s.size - p:=by
 rw [<- size_toList,drop_list,List.length_drop,size_toList]
theorem below_append2 {B n:Nat} {e:TypeId} {size:Nat} {v:Value} {xs:List Value} {w w3:World} (hown:w.ownsRow B e size v n xs) (hB:B <= w.heap.size) {o o':Obj} (hg:((w.alloc o).alloc o').grownBy w3 v.ownBlock):Below B w w3:=
 ((Below.refl B w).alloc hB o).trans (below_append (hown.alloc o) (by simp; omega) hg)
theorem scan_calls (s:ByteArray) (w:World) :
 Calls Tryz.prog 54 #[.string s] w fun e w'=>ScanPost (scanB s.data.toList) w e w':=by
 by_cases hlen:4000 < s.size
 ·have HE:Hid (ScanPost (scanB s.data.toList) w (.returned (.tuple #[.slice none 0 0,I J 0,I J 2])) w):=scan_none (p:=0) (by unfold scanB; rw [if_pos (by rw [size_toList]; exact hlen)]) (Below.refl _ _)
  have hd:decide ((4000:Int) < (s.size:Int)) = true:=by simp; omega
  go_enter Tryz.func54,Tryz.ntmps54
  go_wp2
  go_ret3
  exact HE.out
 have hd:decide ((4000:Int) < (s.size:Int)) = false:=by simp; omega
 have HA:Hid (scanB s.data.toList = finB s.size (tokB (skipB s.data.toList) (s.data.toList.drop (skipB s.data.toList)))):=by
  show _ = _
  unfold scanB; rw [if_neg (by rw [size_toList]; exact hlen),size_toList]
 have hk0:skipB s.data.toList <= s.size:=by rw [<- size_toList]; exact skipB_le _
 obtain ⟨i0,hi,hz0,hz1,hz2⟩:=info_parts info48
 have HB0:Hid (∀ w,Calls Tryz.prog 82 #[.string s] w fun e w'=>e = .returned (I J (skipB s.data.toList:Int)) /\ Below w.heap.size w w'):=fun w=>between_calls s w
 go_enter Tryz.func54,Tryz.ntmps54
 go_wp2_with fail
 refine (HB0.out _).mono ?_
 rintro e w0 ⟨rfl,hb0⟩
 have HBW0:Hid (Below w.heap.size w w0):=hb0
 clear hb0 HB0
 go_wp2
 go_loopw [5,6] (fun v at_ wr=>∃ (p:Nat) (l:List Tk),p <= s.size /\ at_ = I J p /\ l.length <= p /\ Hid (addT l (tokB p (s.data.toList.drop p)) = tokB (skipB s.data.toList) (s.data.toList.drop (skipB s.data.toList))) /\ wr.ownsRow w.heap.size 166 4 v l.length (rowCells l) /\ Below w.heap.size w wr) (fun _ at_ _=>s.size - (intOf at_).toNat)
 case atStart=>exact ⟨skipB s.data.toList,[],hk0,rfl,by simp,by simp [addT,Hid],World.ownsRow_nil _ _ _ _,HBW0.out⟩
 case round=>
  obtain ⟨p,l,hp0,rfl,hll,HT,hown,hbw⟩:=hrel
  obtain ⟨ao,cap,rfl⟩:=owned_shape hown
  have HO:Hid (wr.ownsRow w.heap.size 166 4 (.slice ao l.length cap) l.length (rowCells l)):=hown
  have HB:Hid (Below w.heap.size w wr):=hbw
  clear hown hbw HBW0
  by_cases hp:p < s.size
  ·have hdk:decide ((p:Int) < (s.size:Int)) = true:=by simp; omega
   have hne:s.data.toList.drop p ≠ []:=fun e=>by
    have:=congrArg List.length e
    rw [List.length_drop,size_toList] at this
    simp at this; omega
   have HF:Hid (∀ w,Calls Tryz.prog 83 #[.string (s.extract p s.size)] w fun e w'=>TokPost (firstA (s.data.toList.drop p)) w e w'):=fun w=>by
    have h:=first_calls (s.extract p s.size) w (by rw [drop_size]; omega) (by rw [drop_size]; omega)
    rw [drop_list] at h; exact h
   by_cases herr:errB (s.data.toList.drop p) = 0
   ·have hA:firstA (s.data.toList.drop p) = (kindB (s.data.toList.drop p),(numB (s.data.toList.drop p):Int),textB (s.data.toList.drop p),lenB (s.data.toList.drop p),0):=by unfold firstA; rw [if_pos herr]
    have hn1:=lenB_pos hne
    have hn2:=lenB_le hne herr
    rw [List.length_drop,size_toList] at hn2
    have HS:Hid (addT (l ++ [tkB (s.data.toList.drop p) p]) (tokB (p + lenB (s.data.toList.drop p) + skipB (s.data.toList.drop (p + lenB (s.data.toList.drop p)))) (s.data.toList.drop (p + lenB (s.data.toList.drop p) + skipB (s.data.toList.drop (p + lenB (s.data.toList.drop p)))))) = tokB (skipB s.data.toList) (s.data.toList.drop (skipB s.data.toList))):=by
     show _ = _
     rw [<- HT.out,tokB_step l hne herr,List.drop_drop,List.drop_drop,<- Nat.add_assoc]
    have hsk:skipB (s.data.toList.drop (p + lenB (s.data.toList.drop p))) <= s.size - (p + lenB (s.data.toList.drop p)):=by
     have:=skipB_le (s.data.toList.drop (p + lenB (s.data.toList.drop p)))
     rw [List.length_drop,size_toList] at this
     exact this
    have HN:Hid (∀ w,Calls Tryz.prog 82 #[.string (s.extract (p + lenB (s.data.toList.drop p)) s.size)] w fun e w'=>e = .returned (I J (skipB (s.data.toList.drop (p + lenB (s.data.toList.drop p))):Int)) /\ Below w.heap.size w w'):=fun w=>by
     have h:=between_calls (s.extract (p + lenB (s.data.toList.drop p)) s.size) w
     rw [drop_list] at h; exact h
    rw [hA] at HF
    have HTK:Hid (tkCells (tkB (s.data.toList.drop p) p) = [I J (kindB (s.data.toList.drop p)),I J (numB (s.data.toList.drop p):Int),.string (bs (textB (s.data.toList.drop p))),I J (p:Int)]):=rfl
    have HNW:Hid (∀ (W:World) (o:Obj) (i:Nat) (u:Value),(tkCells (tkB (s.data.toList.drop p) p))[i]? = some u -> ((W.alloc o).alloc (.cells #[I J (kindB (s.data.toList.drop p)),I J (numB (s.data.toList.drop p):Int),.string (bs (textB (s.data.toList.drop p))),I J (p:Int)] 166)).cell? ((⟨W.heap.size + 1,0,none⟩:Addr).add i) = some u):=fun W o i u hu=>cell_tk_new2 W o (tkB (s.data.toList.drop p) p) i u hu
    clear hA herr hne HT
    generalize tkB (s.data.toList.drop p) p = tk at *
    generalize skipB (s.data.toList.drop (p + lenB (s.data.toList.drop p))) = k at *
    generalize lenB (s.data.toList.drop p) = n at *
    generalize kindB (s.data.toList.drop p) = kd at *
    generalize numB (s.data.toList.drop p) = nm at *
    generalize textB (s.data.toList.drop p) = tx at *
    go_wp2_with fail
    refine (HF.out _).mono ?_
    rintro e w1 ⟨rfl,hb1⟩
    have HO1:Hid (w1.ownsRow w.heap.size 166 4 (.slice ao l.length cap) l.length (rowCells l)):=owned_below HO.out hb1
    have HB1:Hid (Below w.heap.size w w1):=HB.out.trans (hb1.mono HB.out.size)
    have hsz1:=HB1.out.size
    clear hb1 HF HO HB
    go_wp2_with (at_builtin; go_loud (refine wpList_append_own _ rfl _ _ 126 rfl w.heap.size 166 i0 (.agg #[I J 0,I J 0,.string ByteArray.empty,I J 0]) 4 40 Tryz.underlying126 hi hz0 hz1 hz2 rfl (by decide) (.slice ao l.length cap) _ _ rfl ((HO1.out.alloc _).alloc _) ⟨_,0,none⟩ 1 1 (tkCells tk) rfl rfl (HNW.out _ _) (tk_oneCell _) (by unfold maxLen; omega) (by omega) (by simp; omega) ?_); intro v' w3 hown' hgrow3 hnil3)
    have HO3:Hid (w3.ownsRow w.heap.size 166 4 v' (l ++ [tk]).length (rowCells (l ++ [tk]))):=by
     show World.ownsRow _ _ _ _ _ _ _
     rw [rowCells_snoc,List.length_append]; exact hown'
    have HB3:Hid (Below w.heap.size w w3):=HB1.out.trans (below_append2 HO1.out hsz1 hgrow3)
    clear hown' hgrow3 hnil3 HO1 HB1 HNW HTK
    have hlen2:(l ++ [tk]).length <= p + n + k:=by simp; omega
    generalize l ++ [tk] = l2 at *
    go_wp2_with (go_at_call 82; refine (HN.out _).mono ?_; rintro e w4 ⟨rfl,hb4⟩)
    go_roundw
    case rel=>exact ⟨p + n + k,l2,by omega,val_int (by omega),hlen2,HS.out,owned_below HO3.out hb4,HB3.out.trans (hb4.mono HB3.out.size)⟩
    case measure=>simp [intOf]; omega
   ·have hA:firstA (s.data.toList.drop p) = (0,0,[],0,errB (s.data.toList.drop p)):=by unfold firstA; rw [if_neg herr]
    have HE:Hid (scanB s.data.toList = ([],p,errB (s.data.toList.drop p))):=by
     show _ = _
     rw [HA.out,<- HT.out,tokB_err hne herr]
     unfold finB addT
     rw [if_neg herr]
    rw [hA] at HF
    have hez:(errB (s.data.toList.drop p) != 0) = true:=by rw [bne_iff_ne]; exact herr
    clear hA herr hne HT HA HO
    generalize errB (s.data.toList.drop p) = z at *
    go_wp2_with fail
    refine (HF.out _).mono ?_
    rintro e w1 ⟨rfl,hb1⟩
    have HB1:Hid (Below w.heap.size w w1):=HB.out.trans (hb1.mono HB.out.size)
    clear hb1 HF HB
    go_wp2
    go_ret3
    exact scan_none HE.out (HB1.out.alloc HB1.out.size _)
  ·have hdk:decide ((p:Int) < (s.size:Int)) = false:=by simp; omega
   have HE:Hid (scanB s.data.toList = (l ++ [endTk s.size],0,0)):=by
    show _ = _
    rw [HA.out,<- HT.out,List.drop_eq_nil_of_le (by rw [size_toList]; omega),tokB_nil]
    unfold finB addT
    rw [if_pos rfl]
    simp
   have hwz:=HB.out.size
   clear HA HT
   go_wp2_with (at_builtin; go_loud (refine wpList_append_own _ rfl _ _ 126 rfl w.heap.size 166 i0 (.agg #[I J 0,I J 0,.string ByteArray.empty,I J 0]) 4 40 Tryz.underlying126 hi hz0 hz1 hz2 rfl (by decide) (.slice ao l.length cap) _ _ rfl (HO.out.alloc _) ⟨_,0,none⟩ 1 1 (tkCells (endTk s.size)) rfl rfl (cell_tk_new _ (endTk s.size)) (tk_oneCell _) (by unfold maxLen; omega) (by omega) (by simp; omega) ?_); intro v' w3 hown' hgrow3 hnil3)
   go_ret3
   rw [HE.out]
   refine ⟨v',rfl,?_,HB.out.trans (below_append HO.out hwz hgrow3)⟩
   rw [rowCells_snoc,List.length_append]; exact hown'
/-! run -/
/-! skipped -/
/-! IsWord -/
end Go.Proofs.YtbbbnopganhebabGreat
