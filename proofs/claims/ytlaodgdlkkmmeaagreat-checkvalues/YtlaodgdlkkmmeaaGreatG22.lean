/-
  The walk of lex.Scan. The walks of the document's own small, digit, part, skipped, run, text, IsText. The walks of the document's own IsWord, IsName, number, text, IsText, sign.
-/
import Derived.Test.YtlaodgdlkkmmeaaGreatG21
namespace Go.Proofs.YtlaodgdlkkmmeaaGreat
open Go.RowKit
open Go.Value renaming int->I,string->Ψ,slice->Γ
open Go.IntKind renaming i64->J
open Go.Ending renaming returned->Ω
set_option maxRecDepth 20000
set_option maxHeartbeats 4000000
theorem cell_tk_new (W:World) (t:Tk):∀ (i:Nat) (u:Value),(tkCells t)[i]? = some u -> (W.alloc (.cells #[I J t.kind,I J t.num,Ψ (bs t.text),I J (t.pl:Int)] 124)).cell? ((⟨W.heap.size,0,none⟩:Addr).add i) = some u:=by
 intro i u hu
 have hadd:(⟨W.heap.size,0,none⟩:Addr).add i = ⟨W.heap.size,i,none⟩:=by unfold Addr.add; split <;> simp_all
 rw [hadd,cell_of_row _ W.heap.size i _ 124 (0,0) (heap_alloc_new W _)]
 have h2:(#[I J t.kind,I J t.num,Ψ (bs t.text),I J (t.pl:Int)]:Array Value).toList = tkCells t:=rfl
 rw [<- Array.getElem?_toList,h2]; exact hu
theorem cell_tk_new2 (W:World) (o:Obj) (t:Tk) (i:Nat) (u:Value) (hu:(tkCells t)[i]? = some u):((W.alloc o).alloc (.cells #[I J t.kind,I J t.num,Ψ (bs t.text),I J (t.pl:Int)] 124)).cell? ((⟨W.heap.size + 1,0,none⟩:Addr).add i) = some u:=by
 have h:=cell_tk_new (W.alloc o) t i u hu
 rwa [show (W.alloc o).heap.size = W.heap.size + 1 by simp] at h
/-- What Scan leaves. -/
def ScanPost (a:List Tk × Nat × Int) (w:World) (e:Ending) (w':World):Prop:=
 ∃ v,e = Ω (.tuple #[v,I J (a.2.1:Int),I J a.2.2]) /\ w'.ownsRow w.heap.size 124 4 v a.1.length (rowCells a.1) /\ Below w.heap.size w w'
theorem scan_none {a:List Tk × Nat × Int} {w w':World} {p:Nat} {z:Int} (h:a = ([],p,z)) (hb:Below w.heap.size w w'):ScanPost a w (Ω (.tuple #[Γ none 0 0,I J (p:Int),I J z])) w':=by
 subst h
 exact ⟨_,rfl,owned_none_nil _ _,hb⟩
theorem drop_list (s:ByteArray) (p:Nat):(s.extract p s.size).data.toList = s.data.toList.drop p:=by
 rw [extract_list,List.take_of_length_le (by simp)]
theorem drop_size (s:ByteArray) (p:Nat):(s.extract p s.size).size = s.size - p:=by
 rw [<- size_toList,drop_list,List.length_drop,size_toList]
theorem below_append2 {B n:Nat} {e:TypeId} {size:Nat} {v:Value} {xs:List Value} {w w3:World} (hown:w.ownsRow B e size v n xs) (hB:B <= w.heap.size) {o o':Obj} (hg:((w.alloc o).alloc o').grownBy w3 v.ownBlock):Below B w w3:=
 ((Below.refl B w).alloc hB o).trans (below_append (hown.alloc o) (by simp; omega) hg)
theorem scan_calls (s:ByteArray) (w:World) :
 Calls Tryz.prog 36 #[Ψ s] w fun e w'=>ScanPost (scanB s.data.toList) w e w':=by
 by_cases hlen:4000 < s.size
 ·have HE:Hid (ScanPost (scanB s.data.toList) w (Ω (.tuple #[Γ none 0 0,I J 0,I J 2])) w):=scan_none (p:=0) (by unfold scanB; rw [if_pos (by rw [size_toList]; exact hlen)]) (Below.refl _ _)
  have hd:decide ((4000:Int) < (s.size:Int)) = true:=by simp; omega
  go_enter Tryz.func36,Tryz.ntmps36
  go_wp2
  go_ret3
  exact HE.out
 have hd:decide ((4000:Int) < (s.size:Int)) = false:=by simp; omega
 have HA:Hid (scanB s.data.toList = finB s.size (tokB (skipB s.data.toList) (s.data.toList.drop (skipB s.data.toList)))):=by
  show _ = _
  unfold scanB; rw [if_neg (by rw [size_toList]; exact hlen),size_toList]
 have hk0:skipB s.data.toList <= s.size:=by rw [<- size_toList]; exact skipB_le _
 obtain ⟨i0,hi,hz0,hz1,hz2⟩:=info_parts info48
 have HB0:Hid (∀ w,Calls Tryz.prog 72 #[Ψ s] w fun e w'=>e = Ω (I J (skipB s.data.toList:Int)) /\ Below w.heap.size w w'):=fun w=>between_calls s w
 go_enter Tryz.func36,Tryz.ntmps36
 go_wp2_with fail
 refine (HB0.out _).mono ?_
 rintro e w0 ⟨rfl,hb0⟩
 have HBW0:Hid (Below w.heap.size w w0):=hb0
 clear hb0 HB0
 go_wp2
 go_loopw [5,6] (fun v at_ wr=>∃ (p:Nat) (l:List Tk),p <= s.size /\ at_ = I J p /\ l.length <= p /\ Hid (addT l (tokB p (s.data.toList.drop p)) = tokB (skipB s.data.toList) (s.data.toList.drop (skipB s.data.toList))) /\ wr.ownsRow w.heap.size 124 4 v l.length (rowCells l) /\ Below w.heap.size w wr) (fun _ at_ _=>s.size - (intOf at_).toNat)
 case atStart=>exact ⟨skipB s.data.toList,[],hk0,rfl,by simp,by simp [addT,Hid],World.ownsRow_nil _ _ _ _,HBW0.out⟩
 case round=>
  obtain ⟨p,l,hp0,rfl,hll,HT,hown,hbw⟩:=hrel
  obtain ⟨ao,cap,rfl⟩:=owned_shape hown
  have HO:=hid hown
  have HB:Hid (Below w.heap.size w wr):=hbw
  clear hown hbw HBW0
  by_cases hp:p < s.size
  ·have hdk:decide ((p:Int) < (s.size:Int)) = true:=by simp; omega
   have hne:s.data.toList.drop p ≠ []:=fun e=>by
    have:=congrArg List.length e
    rw [List.length_drop,size_toList] at this
    simp at this; omega
   have HF:Hid (∀ w,Calls Tryz.prog 73 #[Ψ (s.extract p s.size)] w fun e w'=>TokPost (firstA (s.data.toList.drop p)) w e w'):=fun w=>by
    have h:=first_calls (s.extract p s.size) w (by rw [drop_size]; omega) (by rw [drop_size]; omega)
    rw [drop_list] at h; exact h
   by_cases herr:errB (s.data.toList.drop p) = 0
   ·have hA:firstA (s.data.toList.drop p) = (kindB (s.data.toList.drop p),(numB (s.data.toList.drop p):Int),textB (s.data.toList.drop p),lenB (s.data.toList.drop p),0):=by unfold firstA; rw [if_pos herr]
    have hn1:=lenB_pos hne
    have hn2:=lenB_le hne herr
    rw [List.length_drop,size_toList] at hn2
    have HS:Hid (addT (l ++ [tkB (s.data.toList.drop p) p]) (tokB (p + lenB (s.data.toList.drop p) + skipB (s.data.toList.drop (p + lenB (s.data.toList.drop p)))) (s.data.toList.drop (p + lenB (s.data.toList.drop p) + skipB (s.data.toList.drop (p + lenB (s.data.toList.drop p)))))) = tokB (skipB s.data.toList) (s.data.toList.drop (skipB s.data.toList))):=by
     show _ = _
     rw [<- HT.out,tokB_step l hne herr,List.drop_drop,List.drop_drop,<- Nat.add_assoc]
    have hsk:skipB (s.data.toList.drop (p + lenB (s.data.toList.drop p))) <= s.size - (p + lenB (s.data.toList.drop p)):=by
     have:=skipB_le (s.data.toList.drop (p + lenB (s.data.toList.drop p)))
     rw [List.length_drop,size_toList] at this
     exact this
    have HN:Hid (∀ w,Calls Tryz.prog 72 #[Ψ (s.extract (p + lenB (s.data.toList.drop p)) s.size)] w fun e w'=>e = Ω (I J (skipB (s.data.toList.drop (p + lenB (s.data.toList.drop p))):Int)) /\ Below w.heap.size w w'):=fun w=>by
     have h:=between_calls (s.extract (p + lenB (s.data.toList.drop p)) s.size) w
     rw [drop_list] at h; exact h
    rw [hA] at HF
    have HTK:Hid (tkCells (tkB (s.data.toList.drop p) p) = [I J (kindB (s.data.toList.drop p)),I J (numB (s.data.toList.drop p):Int),Ψ (bs (textB (s.data.toList.drop p))),I J (p:Int)]):=rfl
    have HNW:Hid (∀ (W:World) (o:Obj) (i:Nat) (u:Value),(tkCells (tkB (s.data.toList.drop p) p))[i]? = some u -> ((W.alloc o).alloc (.cells #[I J (kindB (s.data.toList.drop p)),I J (numB (s.data.toList.drop p):Int),Ψ (bs (textB (s.data.toList.drop p))),I J (p:Int)] 124)).cell? ((⟨W.heap.size + 1,0,none⟩:Addr).add i) = some u):=fun W o i u hu=>cell_tk_new2 W o (tkB (s.data.toList.drop p) p) i u hu
    clear hA herr hne HT
    generalize tkB (s.data.toList.drop p) p = tk at *
    generalize skipB (s.data.toList.drop (p + lenB (s.data.toList.drop p))) = k at *
    generalize lenB (s.data.toList.drop p) = n at *
    generalize kindB (s.data.toList.drop p) = kd at *
    generalize numB (s.data.toList.drop p) = nm at *
    generalize textB (s.data.toList.drop p) = tx at *
    go_wp2_with fail
    refine (HF.out _).mono ?_
    rintro e w1 ⟨rfl,hb1⟩
    have HO1:Hid (w1.ownsRow w.heap.size 124 4 (Γ ao l.length cap) l.length (rowCells l)):=owned_below HO.out hb1
    have HB1:Hid (Below w.heap.size w w1):=HB.out.trans (hb1.mono HB.out.size)
    have hsz1:=HB1.out.size
    clear hb1 HF HO HB
    go_wp2_with (at_builtin; go_loud (refine wpList_append_own _ rfl _ _ 82 rfl w.heap.size 124 i0 (.agg #[I J 0,I J 0,Ψ ByteArray.empty,I J 0]) 4 40 Tryz.underlying82 hi hz0 hz1 hz2 rfl (by decide) (Γ ao l.length cap) _ _ rfl ((HO1.out.alloc _).alloc _) ⟨_,0,none⟩ 1 1 (tkCells tk) rfl rfl (HNW.out _ _) (tk_oneCell _) (by unfold maxLen; omega) (by omega) (by simp; omega) ?_); intro v' w3 hown' hgrow3 hnil3)
    have HO3:Hid (w3.ownsRow w.heap.size 124 4 v' (l ++ [tk]).length (rowCells (l ++ [tk]))):=by
     show World.ownsRow _ _ _ _ _ _ _
     rw [rowCells_snoc,List.length_append]; exact hown'
    have HB3:Hid (Below w.heap.size w w3):=HB1.out.trans (below_append2 HO1.out hsz1 hgrow3)
    clear hown' hgrow3 hnil3 HO1 HB1 HNW HTK
    have hlen2:(l ++ [tk]).length <= p + n + k:=by simp; omega
    generalize l ++ [tk] = l2 at *
    go_wp2_with (go_at_call 72; refine (HN.out _).mono ?_; rintro e w4 ⟨rfl,hb4⟩)
    go_roundw
    case rel=>exact ⟨p + n + k,l2,by omega,val_int (by omega),hlen2,HS.out,owned_below HO3.out hb4,HB3.out.trans (hb4.mono HB3.out.size)⟩
    case measure=>simp [intOf]; omega
   ·have hA:firstA (s.data.toList.drop p) = (0,0,[],0,errB (s.data.toList.drop p)):=by unfold firstA; rw [if_neg herr]
    have HE:Hid (scanB s.data.toList = ([],p,errB (s.data.toList.drop p))):=by
     show _ = _
     rw [HA.out,<- HT.out,tokB_err hne herr]
     unfold finB addT
     rw [if_neg herr]
    rw [hA] at HF
    have hez:(errB (s.data.toList.drop p) != 0) = true:=by rw [bne_iff_ne]; exact herr
    clear hA herr hne HT HA HO
    generalize errB (s.data.toList.drop p) = z at *
    go_wp2_with fail
    refine (HF.out _).mono ?_
    rintro e w1 ⟨rfl,hb1⟩
    have HB1:Hid (Below w.heap.size w w1):=HB.out.trans (hb1.mono HB.out.size)
    clear hb1 HF HB
    go_wp2
    go_ret3
    exact scan_none HE.out (HB1.out.alloc HB1.out.size _)
  ·have hdk:decide ((p:Int) < (s.size:Int)) = false:=by simp; omega
   have HE:Hid (scanB s.data.toList = (l ++ [endTk s.size],0,0)):=by
    show _ = _
    rw [HA.out,<- HT.out,List.drop_eq_nil_of_le (by rw [size_toList]; omega),tokB_nil]
    unfold finB addT
    rw [if_pos rfl]
    simp
   have hwz:=HB.out.size
   clear HA HT
   go_wp2_with (at_builtin; go_loud (refine wpList_append_own _ rfl _ _ 82 rfl w.heap.size 124 i0 (.agg #[I J 0,I J 0,Ψ ByteArray.empty,I J 0]) 4 40 Tryz.underlying82 hi hz0 hz1 hz2 rfl (by decide) (Γ ao l.length cap) _ _ rfl (HO.out.alloc _) ⟨_,0,none⟩ 1 1 (tkCells (endTk s.size)) rfl rfl (cell_tk_new _ (endTk s.size)) (tk_oneCell _) (by unfold maxLen; omega) (by omega) (by simp; omega) ?_); intro v' w3 hown' hgrow3 hnil3)
   go_ret3
   rw [HE.out]
   refine ⟨v',rfl,?_,HB.out.trans (below_append HO.out hwz hgrow3)⟩
   rw [rowCells_snoc,List.length_append]; exact hown'
/-! run -/
/-! skipped -/
/-! IsWord -/
end Go.Proofs.YtlaodgdlkkmmeaaGreat
