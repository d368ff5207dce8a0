/-
  The walk of class: bytes by their classes; a rune of a text. The walks of run, between, IsWord, IsName. The walks of IsWord and IsName.
-/
import Derived.Test.YtlaodgdlkkmmeaaGreatG03
import Derived.Test.YtlaodgdlkkmmeaaGreatShelf
namespace Go.Proofs.YtlaodgdlkkmmeaaGreat
open Go.RowKit
open Go.Value renaming int->I
open Go.IntKind renaming i64->J
set_option maxHeartbeats 4000000
def clsI (x:Int):Int:=
 if 48 <= x /\ x <= 57 then 3 else if 97 <= x /\ x <= 122 then 4 else if 65 <= x /\ x <= 90 then 5 else
 if x = 32 \/ x = 9 \/ x = 10 then 1 else if x = 35 then 2 else if x = 95 then 6 else if x = 34 then 7 else
 if x = 59 \/ x = 44 \/ x = 61 \/ x = 43 \/ x = 45 \/ x = 42 \/ x = 40 \/ x = 41 then 8 else if x = 46 then 9 else 0
theorem class_calls (x:Int) (w:World) :
 Calls Tryz.prog 102 #[.int .i32 x] w fun e w'=>e = .returned (I J (clsI x)) /\ w' = w:=by
 go_enter Tryz.func102,Tryz.ntmps102
 go_wp2
 all_goals (go_ret; refine ⟨ret_int ?_,rfl⟩; unfold clsI; repeat' split)
 all_goals first
  | rfl
  | (exfalso; simp_all; done)
  | (exfalso; omega)
theorem eqN (c:UInt8) (n:Nat) (h:n < 256):c = UInt8.ofNat n ↔ c.toNat = n:=by
 constructor
 ·rintro rfl; rw [UInt8.toNat_ofNat',Nat.mod_eq_of_lt h]
 ·intro e
  apply UInt8.toNat_inj.1
  rw [UInt8.toNat_ofNat',Nat.mod_eq_of_lt h]; exact e
theorem cls_high {x:Int} (h:128 <= x):clsI x = 0:=by
 unfold clsI; repeat' split
 all_goals first | rfl | omega
def clsB (c:UInt8):Int:=clsI (c.toNat:Int)
theorem cls_dig (c:UInt8):clsB c = 3 ↔ isDig c = true:=by
 simp only [isDig,Bool.and_eq_true,decide_eq_true_eq]
 unfold clsB clsI
 repeat' split
 all_goals omega
theorem cls_small (c:UInt8):clsB c = 4 ↔ isSmall c = true:=by
 simp only [isSmall,Bool.and_eq_true,decide_eq_true_eq]
 unfold clsB clsI
 repeat' split
 all_goals omega
theorem cls_cap (c:UInt8):clsB c = 5 ↔ isCap c = true:=by
 simp only [isCap,Bool.and_eq_true,decide_eq_true_eq]
 unfold clsB clsI
 repeat' split
 all_goals omega
theorem cls_under (c:UInt8):clsB c = 6 ↔ c = 95:=by
 rw [show (95:UInt8) = UInt8.ofNat 95 from rfl,eqN c 95 (by decide)]
 unfold clsB clsI
 repeat' split
 all_goals omega
theorem cls_quote (c:UInt8):clsB c = 7 ↔ c = 34:=by
 rw [show (34:UInt8) = UInt8.ofNat 34 from rfl,eqN c 34 (by decide)]
 unfold clsB clsI
 repeat' split
 all_goals omega
theorem cls_hash (c:UInt8):clsB c = 2 ↔ c = 35:=by
 rw [show (35:UInt8) = UInt8.ofNat 35 from rfl,eqN c 35 (by decide)]
 unfold clsB clsI
 repeat' split
 all_goals omega
theorem cls_point (c:UInt8):clsB c = 9 ↔ c = 46:=by
 rw [show (46:UInt8) = UInt8.ofNat 46 from rfl,eqN c 46 (by decide)]
 unfold clsB clsI
 repeat' split
 all_goals omega
theorem cls_bl (c:UInt8):clsB c = 1 ↔ isBl c = true:=by
 simp only [isBl,Bool.or_eq_true,beq_iff_eq]
 rw [show (32:UInt8) = UInt8.ofNat 32 from rfl,eqN c 32 (by decide),show (9:UInt8) = UInt8.ofNat 9 from rfl,eqN c 9 (by decide),show (10:UInt8) = UInt8.ofNat 10 from rfl,eqN c 10 (by decide)]
 unfold clsB clsI
 repeat' split
 all_goals omega
theorem cls_mark (c:UInt8):clsB c = 8 ↔ isMark c = true:=by
 simp only [isMark,Bool.or_eq_true,beq_iff_eq]
 rw [show (59:UInt8) = UInt8.ofNat 59 from rfl,eqN c 59 (by decide),show (44:UInt8) = UInt8.ofNat 44 from rfl,eqN c 44 (by decide),show (61:UInt8) = UInt8.ofNat 61 from rfl,eqN c 61 (by decide),show (43:UInt8) = UInt8.ofNat 43 from rfl,eqN c 43 (by decide),show (45:UInt8) = UInt8.ofNat 45 from rfl,eqN c 45 (by decide),show (42:UInt8) = UInt8.ofNat 42 from rfl,eqN c 42 (by decide),show (40:UInt8) = UInt8.ofNat 40 from rfl,eqN c 40 (by decide),show (41:UInt8) = UInt8.ofNat 41 from rfl,eqN c 41 (by decide)]
 unfold clsB clsI
 repeat' split
 all_goals omega
theorem cls_part (c:UInt8):isPart c = true ↔ (clsB c = 4 \/ clsB c = 5 \/ clsB c = 3 \/ clsB c = 6):=by
 rw [cls_small,cls_cap,cls_dig,cls_under]
 simp only [isPart,Bool.or_eq_true,beq_iff_eq]
 constructor
 ·rintro (((h | h) | h) | h) <;> simp [h]
 ·rintro (h | h | h | h) <;> simp [h]
theorem cls_range (x:Int):0 <= clsI x /\ clsI x <= 9:=by
 unfold clsI; repeat' split
 all_goals omega
theorem high_part {c:UInt8} (h:128 <= c.toNat):isPart c = false:=by
 cases hp:isPart c with
 | false=>rfl
 | true=>
   have h1:=(cls_part c).1 hp
   have h2:clsB c = 0:=cls_high (by omega)
   omega
/-! A rune of a text -/
theorem decode_wide (s:ByteArray) (pos:Nat) (h:pos < s.size) (ha:128 <= (s[pos]'h).toNat):pos + (Utf8.decode s pos).2 <= s.size /\ ∀ j (hj:pos + j < s.size),j < (Utf8.decode s pos).2 -> 128 <= (s[pos + j]'hj).toNat:=by
 have hn:¬ (s[pos]'h).toNat < 128:=by omega
 have g:∀ k (hk:pos + k < s.size),s.get! (pos + k) = s[pos + k]'hk:=fun k hk=>by
  simp [ByteArray.get!,getElem!_pos,hk]; rfl
 have j0:∀ j (hj:pos + j < s.size),j = 0 -> 128 <= (s[pos + j]'hj).toNat:=by
  intro j hj e; subst e; exact ha
 have j1:∀ k j (hj:pos + j < s.size),j = k -> (s.get! (pos + k)).toNat / 64 = 2 -> 128 <= (s[pos + j]'hj).toNat:=by
  intro k j hj e; subst e; rw [g _ hj]; omega
 simp only [Utf8.decode,get_at s pos h,hn,if_false]
 repeat' split
 all_goals (try simp only [Bool.and_eq_true,decide_eq_true_eq,beq_iff_eq] at *)
 all_goals refine ⟨by omega,fun j hj hlt=>?_⟩
 all_goals first
  | exact j0 j hj (by omega)
  | (have:j = 0 \/ j = 1:=by omega
     rcases this with e | e
     ·exact j0 j hj e
     ·exact j1 1 j hj e (by omega))
  | (have:j = 0 \/ j = 1 \/ j = 2:=by omega
     rcases this with e | e | e
     ·exact j0 j hj e
     ·exact j1 1 j hj e (by omega)
     ·exact j1 2 j hj e (by omega))
  | (have:j = 0 \/ j = 1 \/ j = 2 \/ j = 3:=by omega
     rcases this with e | e | e | e
     ·exact j0 j hj e
     ·exact j1 1 j hj e (by omega)
     ·exact j1 2 j hj e (by omega)
     ·exact j1 3 j hj e (by omega))
/-- A rune of a text, as a loop over it meets it: the byte itself if it is below 128; else one whose bytes are all from 128 on. -/
theorem next_rune (wr:World) (k:Nat) (s:ByteArray) (pos:Nat) (hit:wr.heap[k]? = some (.stringIter s pos)) (hp:pos < s.size) :
 ∃ (x:Int) (d:Nat),(∀ ty,(Instr.next (.pointer (some ⟨k,0,none⟩)) true ty).run Tryz.prog wr = .ok (.tuple #[.bool true,I J pos,.int .i32 x]) (wr.iterAt k s (pos + d))) /\ 1 <= d /\ pos + d <= s.size /\
   ((x = (s[pos].toNat:Int) /\ d = 1 /\ s[pos].toNat < 128) \/ (128 <= x /\ 128 <= s[pos].toNat /\ ∀ j (hj:pos + j < s.size),j < d -> 128 <= (s[pos + j]'hj).toNat)):=by
 by_cases ha:s[pos].toNat < 128
 ·exact ⟨_,1,fun ty=>Lib.run_next_ascii_at wr k s pos ty hit hp ha,Nat.le_refl _,by omega,.inl ⟨rfl,rfl,ha⟩⟩
 ·obtain ⟨h1,h2⟩:=decode_high s pos hp (by omega)
  obtain ⟨h3,h4⟩:=decode_wide s pos hp (by omega)
  exact ⟨_,_,fun ty=>Lib.run_next_any_at wr k s pos ty hit hp,h2,h3,.inr ⟨by omega,by omega,h4⟩⟩
theorem rune_cls {x:Int} {c:UInt8} (h:x = (c.toNat:Int) \/ (128 <= x /\ 128 <= c.toNat)):clsI x = clsB c:=by
 rcases h with rfl | ⟨h1,h2⟩
 ·rfl
 ·rw [cls_high h1]; unfold clsB; rw [cls_high (by omega)]
theorem drop_at {s:List UInt8} {k:Nat} {c:UInt8} (h:s[k]? = some c):s.drop k = c :: s.drop (k + 1):=by
 obtain ⟨hlt,he⟩:=List.getElem?_eq_some_iff.1 h
 rw [List.drop_eq_getElem_cons hlt,he]
open Go.Ending renaming returned->Ω
/-! run -/
theorem run_step {s:List UInt8} {k n:Nat} {c:UInt8} (h:s[k]? = some c) (hc:isPart c = true) (hr:k + (runB (s.drop k)).length = n):k + 1 + (runB (s.drop (k + 1))).length = n:=by
 rw [drop_at h] at hr
 simp [runB,hc] at hr ⊢
 omega
theorem run_stop {s:List UInt8} {k:Nat} {c:UInt8} (h:s[k]? = some c) (hc:isPart c = false):(runB (s.drop k)).length = 0:=by
 rw [drop_at h]; simp [runB,hc]
theorem run_calls (s:ByteArray) (w:World) :
 Calls Tryz.prog 104 #[.string s] w fun e w'=>e = Ω (I J ((runB s.data.toList).length:Int)) /\ Below w.heap.size w w':=by
 go_enter Tryz.func104,Tryz.ntmps104
 go_wp2
 go_loopw [] (fun wr=>∃ pos:Nat,pos <= s.size /\ pos + (runB (s.data.toList.drop pos)).length = (runB s.data.toList).length /\ wr.heap[w.heap.size]? = some (.stringIter s pos) /\ Below w.heap.size w wr) (fun wr=>s.size - wr.iterPos w.heap.size)
 case atStart=>exact ⟨0,Nat.zero_le _,by simp,World.iter_heap w s 0,(Below.refl _ _).alloc (Nat.le_refl _) _⟩
 case round=>
  obtain ⟨pos,hp0,hr,hit,hbw⟩:=hrel
  have hpos0:=iterPos_of hit
  have HR:=hid hr
  clear hr
  by_cases hp:pos < s.size
  ·obtain ⟨x,d,hnx,hd1,hd2,hx⟩:=next_rune wr w.heap.size s pos hit hp
   have HG:Hid (s.data.toList[pos]? = some s[pos]):=getElem?_at s pos hp
   have hit2:=Lib.iterAt_heap wr w.heap.size s pos (pos + d) hit
   have hbw2:=Lib.below_iterAt hbw (k:=w.heap.size) (Nat.le_refl _) s (pos + d)
   obtain ⟨W1,hW1⟩:∃ W1,W1 = wr.iterAt w.heap.size s (pos + d):=⟨_,rfl⟩
   rw [<- hW1] at hnx hit2 hbw2
   clear hW1 hit hbw
   have hcl:clsI x = clsB s[pos]:=rune_cls (by rcases hx with ⟨h,_⟩ | ⟨h1,h2,_⟩; exact .inl h; exact .inr ⟨h1,h2⟩)
   have hrg:=cls_range x
   generalize hcx:clsI x = kx at *
   have HC:Hid (∀ w,Calls Tryz.prog 102 #[.int .i32 x] w fun e w'=>e = Ω (I J kx) /\ w' = w):=fun w=>by rw [<- hcx]; exact class_calls x w
   have HB:Hid (Below w.heap.size w W1):=hbw2
   have HI:=hid hit2
   clear hcx hbw2 hit2
   cases hc:isPart s[pos] with
   | false=>
     have hno:¬ (kx = 4 \/ kx = 5 \/ kx = 3 \/ kx = 6):=by
      rw [hcl,<- cls_part,hc]; simp
     have h4:(kx == 4) = false:=by simp; omega
     have h5:(kx == 5) = false:=by simp; omega
     have h3:(kx == 3) = false:=by simp; omega
     have h6:(kx == 6) = false:=by simp; omega
     have HE:Hid ((pos:Int) = ((runB s.data.toList).length:Int)):=by
      have:=HR.out; rw [run_stop HG.out hc] at this
      show _ = _
      omega
     clear hno hcl hx hc HR HG
     go_wp2_with (go_at_call 102; refine (HC.out _).mono ?_; rintro e w' ⟨rfl,rfl⟩)
     go_ret
     exact ⟨ret_int HE.out,HB.out⟩
   | true=>
     obtain rfl:d = 1:=by
      rcases hx with ⟨_,h,_⟩ | ⟨_,h,_⟩
      ·exact h
      ·rw [high_part h] at hc; cases hc
     have HN:Hid (pos + 1 + (runB (s.data.toList.drop (pos + 1))).length = (runB s.data.toList).length):=run_step HG.out hc HR.out
     have hyes:(kx == 4) = true \/ ((kx == 4) = false /\ (kx == 5) = true) \/ ((kx == 4) = false /\ (kx == 5) = false /\ (kx == 3) = true) \/ ((kx == 4) = false /\ (kx == 5) = false /\ (kx == 3) = false /\ (kx == 6) = true):=by
      have:=(cls_part s[pos]).1 hc
      rw [<- hcl] at this
      simp only [beq_iff_eq,beq_eq_false_iff_ne,ne_eq]
      omega
     clear hcl hx hc HR HG
     rcases hyes with h1 | ⟨h1,h2⟩ | ⟨h1,h2,h3⟩ | ⟨h1,h2,h3,h4⟩ <;> (
      go_wp2_with (go_at_call 102; refine (HC.out _).mono ?_; rintro e w' ⟨rfl,rfl⟩)
      go_roundw
      case rel=>exact ⟨pos + 1,by omega,HN.out,HI.out,HB.out⟩
      case measure=>rw [iterPos_of HI.out,hpos0]; omega)
  ·have hnx:∀ ty,(Instr.next (.pointer (some ⟨w.heap.size,0,none⟩)) true ty).run Tryz.prog wr = _:=fun ty=>Lib.run_next_end_at wr w.heap.size s pos ty hit hp
   have HE:Hid ((s.size:Int) = ((runB s.data.toList).length:Int)):=by
    have:=HR.out
    rw [List.drop_eq_nil_of_le (by rw [size_toList]; omega)] at this
    simp [runB] at this
    show _ = _
    simp [runB]; omega
   have HB:Hid (Below w.heap.size w wr):=hbw
   clear hbw HR
   go_wp2
   go_ret
   exact ⟨ret_int HE.out,HB.out⟩
open Go.Value renaming int->I,string->Ψ
set_option maxHeartbeats 4000000
theorem word_of {s:ByteArray} {l:List UInt8} (h:(s.toList == l) = true) (hl:l ∈ wordsB):wordB s.data.toList = true:=by
 rw [ByteArray.toList_eq] at h
 rw [wordB,beq_iff_eq.1 h]
 simpa using hl
theorem isWord_calls (s:ByteArray) (w:World) :
 Calls Tryz.prog 120 #[Ψ s] w fun e w'=>e = Ω (.bool (wordB s.data.toList)) /\ w' = w:=by
 by_cases hw:wordB s.data.toList = true
 ·have HE:Hid (wordB s.data.toList = true):=hw
  have hw:s.data.toList ∈ wordsB:=of_decide_eq_true hw
  simp only [wordsB] at hw
  rw [<- ByteArray.toList_eq] at hw
  simp only [List.mem_cons,List.not_mem_nil,or_false] at hw
  rcases hw with h | h | h | h | h | h | h | h | h | h | h | h | h | h | h | h <;> (
   have hS2:∀ l:List UInt8,(s.toList == l) = (_ == l):=fun l=>by rw [h]
   have a1:=hS2 [108,101,116]
   have a2:=hS2 [97,108,112,104,97,98,101,116]
   have a3:=hS2 [109,97,116,99,104]
   have a4:=hS2 [109,105,115,109,97,116,99,104]
   have a5:=hS2 [112,97,105,114]
   have a6:=hS2 [103,97,112]
   have a7:=hS2 [109,111,100,101]
   have a8:=hS2 [98,97,110,100]
   have a9:=hS2 [99,108,105,112]
   have b1:=hS2 [108,101,97,115,116]
   have b2:=hS2 [109,105,110]
   have b3:=hS2 [109,97,120]
   have b4:=hS2 [103,108,111,98,97,108]
   have b5:=hS2 [102,105,116]
   have b6:=hS2 [108,111,99,97,108]
   have b7:=hS2 [101,120,116,101,110,100]
   clear hS2 h
   go_enter Tryz.func120,Tryz.ntmps120
   go_wp2
   go_ret
   exact ⟨ret_bool HE.out.symm,rfl⟩)
 ·have HE:Hid (wordB s.data.toList = false):=by simpa [Hid] using hw
  have hn:∀ l ∈ wordsB,(s.toList == l) = false:=by
   intro l hl
   rw [beq_eq_false_iff_ne]
   intro e
   exact hw (word_of (by rw [e]; simp) hl)
  simp only [wordsB,List.forall_mem_cons] at hn
  obtain ⟨a1,a2,a3,a4,a5,a6,a7,a8,a9,b1,b2,b3,b4,b5,b6,b7,_⟩:=hn
  clear hw
  go_enter Tryz.func120,Tryz.ntmps120
  go_wp2
  go_ret
  exact ⟨ret_bool HE.out.symm,rfl⟩
theorem lett_step {S:List UInt8} {k:Nat} {c:UInt8} (h:S[k]? = some c) (ht:lettersB (S.take k) = true) (h0:k = 0 -> isSmall c = true) (h1:restOk c = true):lettersB (S.take (k + 1)) = true:=by
 cases S with
 | nil=>simp at h
 | cons a r=>
   cases k with
   | zero=>simp at h; subst h; simp [lettersB,h0 rfl]
   | succ k=>
     simp only [List.take_succ_cons,lettersB,Bool.and_eq_true] at ht ⊢
     refine ⟨ht.1,?_⟩
     have hk:r[k]? = some c:=by simpa using h
     obtain ⟨hlt,he⟩:=List.getElem?_eq_some_iff.1 hk
     rw [List.take_succ_eq_append_getElem hlt,he,List.all_append,ht.2]
     simp [h1]
theorem lett_fail {S:List UInt8} {k:Nat} {c:UInt8} (h:S[k]? = some c) (hf:(k = 0 /\ isSmall c = false) \/ restOk c = false):lettersB S = false:=by
 cases S with
 | nil=>simp at h
 | cons a r=>
   cases k with
   | zero=>
     simp at h; subst h
     rcases hf with hf | hf
     ·simp [lettersB,hf.2]
     ·simp only [restOk,Bool.or_eq_false_iff] at hf
      simp [lettersB,hf.1.1]
   | succ k=>
     have hk:r[k]? = some c:=by simpa using h
     have hm:c ∈ r:=List.mem_of_getElem? hk
     rcases hf with hf | hf
     ·omega
     ·cases hx:lettersB (a :: r) with
      | false=>rfl
      | true=>
        simp only [lettersB,Bool.and_eq_true,List.all_eq_true] at hx
        rw [hx.2 c hm] at hf; cases hf
theorem cls_rest (c:UInt8):restOk c = true ↔ (clsB c = 4 \/ clsB c = 3 \/ clsB c = 6):=by
 rw [cls_small,cls_dig,cls_under]
 simp only [restOk,Bool.or_eq_true,beq_iff_eq]
 constructor
 ·rintro ((h | h) | h) <;> simp [h]
 ·rintro (h | h | h) <;> simp [h]
theorem small_rest {c:UInt8} (h:isSmall c = true):restOk c = true:=by simp [restOk,h]
theorem rest_low {c:UInt8} (h:restOk c = true):¬ 128 <= c.toNat:=by
 intro hc
 have h1:=(cls_rest c).1 h
 have h2:clsB c = 0:=cls_high (by omega)
 omega
theorem isName_calls (s:ByteArray) (w:World) :
 Calls Tryz.prog 85 #[Ψ s] w fun e w'=>e = Ω (.bool (nameB s.data.toList)) /\ Below w.heap.size w w':=by
 have HW:Hid (∀ w,Calls Tryz.prog 120 #[Ψ s] w fun e w'=>e = Ω (.bool (wordB s.data.toList)) /\ w' = w):=fun w=>isWord_calls s w
 have HN:Hid (nameB s.data.toList = (!wordB s.data.toList && (decide (1 <= s.size) && (decide (s.size <= 16) && lettersB s.data.toList)))):=by
  show _ = _
  unfold nameB; rw [size_toList]
 by_cases hl:16 < s.size
 ·have hd:decide ((16:Int) < (s.size:Int)) = true:=by simp; omega
  have HE:Hid (nameB s.data.toList = false):=by
   show _ = _
   rw [HN.out,show decide (s.size <= 16) = false by simp; omega]; simp
  go_enter Tryz.func85,Tryz.ntmps85
  go_wp2
  go_ret
  exact ⟨ret_bool HE.out.symm,Below.refl _ _⟩
 have hd:decide ((16:Int) < (s.size:Int)) = false:=by simp; omega
 cases hw:wordB s.data.toList with
 | true=>
   rw [hw] at HW HN
   have HE:Hid (nameB s.data.toList = false):=by
    show _ = _
    rw [HN.out]; rfl
   clear hw
   go_enter Tryz.func85,Tryz.ntmps85
   go_wp2_with (go_at_call 120; refine (HW.out _).mono ?_; rintro e w' ⟨rfl,rfl⟩)
   go_ret
   exact ⟨ret_bool HE.out.symm,Below.refl _ _⟩
 | false=>
   have HW:Hid (∀ w,Calls Tryz.prog 120 #[Ψ s] w fun e w'=>e = Ω (.bool false) /\ w = w'):=fun w=>by
    have h:=isWord_calls s w
    rw [hw] at h
    exact h.mono fun e w' h=>⟨h.1,h.2.symm⟩
   rw [hw] at HN
   have HM:Hid (nameB s.data.toList = (decide (1 <= s.size) && lettersB s.data.toList)):=by
    show _ = _
    rw [HN.out,show decide (s.size <= 16) = true by simp; omega]; rfl
   clear hw HN
   go_enter Tryz.func85,Tryz.ntmps85
   go_wp2_with (go_at_call 120; refine (HW.out _).mono ?_; rintro e w' ⟨rfl,rfl⟩)
   go_loopw [] (fun wr=>∃ pos:Nat,pos <= s.size /\ lettersB (s.data.toList.take pos) = true /\ wr.heap[w.heap.size]? = some (.stringIter s pos) /\ Below w.heap.size w wr) (fun wr=>s.size - wr.iterPos w.heap.size)
   case atStart=>exact ⟨0,Nat.zero_le _,by simp [lettersB],World.iter_heap w s 0,(Below.refl _ _).alloc (Nat.le_refl _) _⟩
   case round=>
    obtain ⟨pos,hp0,hr,hit,hbw⟩:=hrel
    have hpos0:=iterPos_of hit
    have HR:=hid hr
    clear hr
    by_cases hp:pos < s.size
    ·obtain ⟨x,d,hnx,hd1,hd2,hx⟩:=next_rune wr w.heap.size s pos hit hp
     have HG:Hid (s.data.toList[pos]? = some s[pos]):=getElem?_at s pos hp
     have hit2:=Lib.iterAt_heap wr w.heap.size s pos (pos + d) hit
     have hbw2:=Lib.below_iterAt hbw (k:=w.heap.size) (Nat.le_refl _) s (pos + d)
     obtain ⟨W1,hW1⟩:∃ W1,W1 = wr.iterAt w.heap.size s (pos + d):=⟨_,rfl⟩
     rw [<- hW1] at hnx hit2 hbw2
     clear hW1 hit hbw
     have hcl:clsI x = clsB s[pos]:=rune_cls (by rcases hx with ⟨h,_⟩ | ⟨h1,h2,_⟩; exact .inl h; exact .inr ⟨h1,h2⟩)
     generalize hcx:clsI x = kx at *
     have HC:Hid (∀ w,Calls Tryz.prog 102 #[.int .i32 x] w fun e w'=>e = Ω (I J kx) /\ w' = w):=fun w=>by rw [<- hcx]; exact class_calls x w
     have HB:Hid (Below w.heap.size w W1):=hbw2
     have HI:=hid hit2
     clear hcx hbw2 hit2
     have low:restOk s[pos] = true -> d = 1:=by
      intro h
      rcases hx with ⟨_,h',_⟩ | ⟨_,h',_⟩
      ·exact h'
      ·exact absurd h' (rest_low h)
     have HF:Hid (((pos = 0 /\ isSmall s[pos] = false) \/ restOk s[pos] = false) -> nameB s.data.toList = false):=fun h=>by
      rw [HM.out,lett_fail HG.out h]; simp
     cases hc:isSmall s[pos] with
     | true=>
       have hk:(kx == 4) = true:=by rw [beq_iff_eq,hcl,cls_small]; exact hc
       obtain rfl:=low (small_rest hc)
       have HS:Hid (lettersB (s.data.toList.take (pos + 1)) = true):=lett_step HG.out HR.out (fun _=>hc) (small_rest hc)
       clear hcl hx low HR HG HF
       go_wp2_with (go_at_call 102; refine (HC.out _).mono ?_; rintro e w' ⟨rfl,rfl⟩)
       go_roundw
       case rel=>exact ⟨pos + 1,by omega,HS.out,HI.out,HB.out⟩
       case measure=>rw [iterPos_of HI.out,hpos0]; omega
     | false=>
       have hk:(kx == 4) = false:=by rw [beq_eq_false_iff_ne,hcl,ne_eq,cls_small,hc]; decide
       cases hr:restOk s[pos] with
       | false=>
         have hno:¬ (clsB s[pos] = 4 \/ clsB s[pos] = 3 \/ clsB s[pos] = 6):=fun h'=>(Bool.eq_false_iff.1 hr) ((cls_rest s[pos]).2 h')
         rw [<- hcl] at hno
         have hk3:(kx == 3) = false:=by rw [beq_eq_false_iff_ne]; omega
         have hk6:(kx == 6) = false:=by rw [beq_eq_false_iff_ne]; omega
         have HE:Hid (nameB s.data.toList = false):=HF.out (.inr hr)
         clear hcl hx low HR HG HF hno
         go_wp2_with (go_at_call 102; refine (HC.out _).mono ?_; rintro e w' ⟨rfl,rfl⟩)
         go_ret
         exact ⟨ret_bool HE.out.symm,HB.out⟩
       | true=>
         have hyes:=(cls_rest s[pos]).1 hr
         rw [<- hcl] at hyes
         have hk36:(kx == 3) = true \/ ((kx == 3) = false /\ (kx == 6) = true):=by
          simp only [beq_iff_eq,beq_eq_false_iff_ne,ne_eq] at hk ⊢
          omega
         obtain rfl:=low hr
         by_cases h0:pos = 0
         ·have HE:Hid (nameB s.data.toList = false):=HF.out (.inl ⟨h0,hc⟩)
          have hz:((pos:Int) == 0) = true:=by rw [beq_iff_eq]; omega
          clear hcl hx low HR HG HF hyes h0 hr hc
          rcases hk36 with h3 | ⟨h3,h6⟩ <;> (
           go_wp2_with (go_at_call 102; refine (HC.out _).mono ?_; rintro e w' ⟨rfl,rfl⟩)
           go_ret
           exact ⟨ret_bool HE.out.symm,HB.out⟩)
         ·have HS:Hid (lettersB (s.data.toList.take (pos + 1)) = true):=lett_step HG.out HR.out (fun h=>absurd h h0) hr
          have hz:((pos:Int) == 0) = false:=by rw [beq_eq_false_iff_ne]; omega
          clear hcl hx low HR HG HF hyes hr hc
          rcases hk36 with h3 | ⟨h3,h6⟩ <;> (
           go_wp2_with (go_at_call 102; refine (HC.out _).mono ?_; rintro e w' ⟨rfl,rfl⟩)
           go_roundw
           case rel=>exact ⟨pos + 1,by omega,HS.out,HI.out,HB.out⟩
           case measure=>rw [iterPos_of HI.out,hpos0]; omega)
    ·have hnx:∀ ty,(Instr.next (.pointer (some ⟨w.heap.size,0,none⟩)) true ty).run Tryz.prog wr = _:=fun ty=>Lib.run_next_end_at wr w.heap.size s pos ty hit hp
     have HE:Hid (decide (0 < s.size) = nameB s.data.toList):=by
      have:=HR.out
      rw [List.take_of_length_le (by rw [size_toList]; omega)] at this
      show _ = _
      rw [HM.out,this,Bool.and_true,decide_eq_decide]
      exact Iff.rfl
     have HB:Hid (Below w.heap.size w wr):=hbw
     clear hbw HR HM
     go_wp2
     go_ret
     exact ⟨ret_bool HE.out,HB.out⟩
end Go.Proofs.YtlaodgdlkkmmeaaGreat
