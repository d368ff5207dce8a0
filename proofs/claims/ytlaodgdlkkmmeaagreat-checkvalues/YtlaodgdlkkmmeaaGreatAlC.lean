/-
  alpha.Right, alpha.Code and the document's Right: whether a text is an alphabet, the number of a letter.
-/
import Derived.Test.YtlaodgdlkkmmeaaGreatProg
import Derived.WalkKit
import Derived.BigQuiet
import Derived.Deep.QuietTactic
import Derived.WalkSmall
import Derived.Deep.RegionWith
import Derived.Test.YtlaodgdlkkmmeaaGreatAlP
import Derived.Test.YtlaodgdlkkmmeaaGreatG03
namespace Go.Proofs.YtlaodgdlkkmmeaaGreat.Al
open Go.RowKit Go.Proofs.YtlaodgdlkkmmeaaGreat
open Go.Value renaming int->I,string->Ψ
open Go.IntKind renaming i64->J
open Go.Ending renaming returned->Ω
set_option maxHeartbeats 400000
theorem capital_calls (c:Int) (w:World) (h0:0 <= c) (h1:c <= 255) :
 Calls Tryz.prog 150 #[.int .u8 c] w fun e w'=>e = Ω (.int .u8 (capOf c)) /\ w' = w:=by
 unfold capOf
 by_cases ha:97 <= c
 ·by_cases hb:c <= 122
  ·rw [if_pos ⟨ha,hb⟩]
   go_enter Tryz.func150,Tryz.ntmps150
   go_wp2
   go_ret
   exact ⟨ret_int (by omega),rfl⟩
  ·rw [if_neg (by omega)]
   go_enter Tryz.func150,Tryz.ntmps150
   go_wp2
   go_ret
   exact ⟨rfl,rfl⟩
 ·rw [if_neg (by omega)]
  go_enter Tryz.func150,Tryz.ntmps150
  go_wp2
  go_ret
  exact ⟨rfl,rfl⟩
theorem isCapital_calls (c:Int) (w:World) (h0:0 <= c) (h1:c <= 255) :
 Calls Tryz.prog 117 #[.int .u8 c] w fun e w'=>e = Ω (.bool (isCap c)) /\ w' = w:=by
 go_enter Tryz.func117,Tryz.ntmps117
 go_wp2
 all_goals (go_ret; exact ⟨ret_bool (by simp [isCap]; omega),rfl⟩)
theorem indexEntry (s:ByteArray) (c:Int) (w:World) :
 (callFunc 149 #[Ψ s,.int .u8 c]).run Tryz.prog w = .ok (.value (I J (Lib.indexByte s.data.toList c.toNat.toUInt8))) w:=by
 rw [run_callFunc_extern Tryz.func149 (by kernel_rfl) (by kernel_rfl) (by kernel_rfl) (e:=Extern.BytealgIndexByte.indexByte) (by kernel_rfl),Lib.run_indexByteString]
 rfl
theorem indexByte_calls (s:ByteArray) (c:Int) (w:World) :
 Calls Tryz.prog 118 #[Ψ s,.int .u8 c] w fun e w'=>e = Ω (I J (Lib.indexByte s.data.toList c.toNat.toUInt8)) /\ w' = w:=by
 have he:=indexEntry s c
 go_enter Tryz.func118,Tryz.ntmps118
 go_wp2
 go_ret
 exact ⟨rfl,rfl⟩
theorem number_calls (s:ByteArray) (c:Int) (w:World) (h0:0 <= c) (h1:c <= 255) :
 Calls Tryz.prog 145 #[Ψ s,.int .u8 c] w fun e w'=>e = Ω (I J (codeOf s.data.toList c)) /\ w' = w:=by
 go_enter Tryz.func145,Tryz.ntmps145
 go_wp2_with (first
  | (go_at_call 150; refine (capital_calls _ _ h0 h1).mono ?_; rintro e w' ⟨rfl,rfl⟩)
  | (go_at_call 118; refine (indexByte_calls _ _ _).mono ?_; rintro e w' ⟨rfl,rfl⟩))
 go_ret
 exact ⟨rfl,rfl⟩
theorem getD_at (s:ByteArray) (k:Nat) (h:k < s.size):s.data.toList.getD k 0 = s[k]:=by
 have h':k < s.data.toList.length:=by simpa using h
 simp only [List.getD,List.getElem?_eq_getElem h',Option.getD_some]; rfl
theorem byte_back (b:UInt8):((b.toNat:Int)).toNat.toUInt8 = b:=by simp
theorem extract_list (s:ByteArray) (k:Nat):(s.extract 0 k).data.toList = s.data.toList.take k:=by
 simp
theorem indexTo_calls (s:ByteArray) (k:Nat) (w:World) (hk:k < s.size) :
 Calls Tryz.prog 118 #[Ψ (s.extract 0 k),.int .u8 (s[k].toNat:Int)] w fun e w'=>e = Ω (I J (Lib.indexByte (s.data.toList.take k) s[k])) /\ w' = w:=by
 have h:=indexByte_calls (s.extract 0 k) (s[k].toNat:Int) w
 rw [byte_back,extract_list] at h
 exact h
theorem okAt_good (s:ByteArray) (k:Nat) (hk:k < s.size) (h1:65 <= (s[k].toNat:Int)) (h2:(s[k].toNat:Int) <= 90) (h3:Lib.indexByte (s.data.toList.take k) s[k] < 0):okAt s.data.toList k = true:=by
 simp only [okAt,getD_at s k hk,Bool.and_eq_true,decide_eq_true_eq]
 exact ⟨⟨h1,h2⟩,h3⟩
theorem okAt_bad (s:ByteArray) (k:Nat) (hk:k < s.size) (h:(s[k].toNat:Int) < 65 \/ 90 < (s[k].toNat:Int) \/ 0 <= Lib.indexByte (s.data.toList.take k) s[k]):okAt s.data.toList k = false:=by
 cases e:okAt s.data.toList k with
 | false=>rfl
 | true=>
   simp only [okAt,getD_at s k hk,Bool.and_eq_true,decide_eq_true_eq] at e
   omega
theorem okTo_next (s:ByteArray) (k:Nat) (hk:k < s.size) (h0:okTo s.data.toList k = true) (h1:65 <= (s[k].toNat:Int)) (h2:(s[k].toNat:Int) <= 90) (h3:Lib.indexByte (s.data.toList.take k) s[k] < 0):okTo s.data.toList (k + 1) = true:=by
 rw [okTo_succ,h0,okAt_good s k hk h1 h2 h3]; rfl
theorem drew_more {w wr:World} (h:∃ n,wr = w.drewN n) (m:Nat):∃ n,wr.drewN m = w.drewN n:=by
 obtain ⟨n,rfl⟩:=h
 exact ⟨n + m,World.drewN_drewN _ _ _⟩
theorem isCap_true (c:Int) (h1:65 <= c) (h2:c <= 90):isCap c = true:=by simp [isCap]; omega
theorem isCap_false (c:Int) (h:c < 65 \/ 90 < c):isCap c = false:=by simp [isCap]; omega
theorem isCapitalAt_calls (s:ByteArray) (k:Nat) (w:World) (hk:k < s.size) :
 Calls Tryz.prog 117 #[.int .u8 (s[k].toNat:Int)] w fun e w'=>e = Ω (.bool (isCap (s[k].toNat:Int))) /\ w' = w:=
 isCapital_calls _ w (by omega) (by have:=UInt8.toNat_lt s[k]; omega)
theorem right_calls (s:ByteArray) (w:World) (hs:s.size <= maxLen) :
 Calls Tryz.prog 82 #[Ψ s] w fun e w'=>e = Ω (.bool (rightB s.data.toList)) /\ ∃ n,w' = w.drewN n:=by
 unfold maxLen at hs
 have hl:s.data.toList.length = s.size:=by simp
 by_cases h2:s.size < 2
 ·go_enter Tryz.func82,Tryz.ntmps82
  go_wp2
  go_ret
  exact ⟨ret_bool (rightB_short _ (by omega)).symm,0,rfl⟩
 by_cases h20:20 < s.size
 ·go_enter Tryz.func82,Tryz.ntmps82
  go_wp2
  go_ret
  exact ⟨ret_bool (rightB_long _ (by omega)).symm,0,rfl⟩
 have hd2:decide ((s.size:Int) < 2) = false:=by simp; omega
 have hd20:decide ((20:Int) < (s.size:Int)) = false:=by simp; omega
 go_enter Tryz.func82,Tryz.ntmps82
 go_wp2
 go_loopw [3,14] (fun _ i wr=>∃ k:Nat,k <= s.size /\ i = I J k /\ okTo s.data.toList k = true /\ ∃ n,wr = w.drewN n) (fun _ i _=>s.size - (intOf i).toNat)
 case atStart=>exact ⟨0,Nat.zero_le _,rfl,rfl,0,rfl⟩
 case round=>
  obtain ⟨k,hk,rfl,hok,hdr⟩:=hrel
  have HN:Hid (okTo s.data.toList k = true):=hok
  have HD:Hid (∃ n,wr = w.drewN n):=hdr
  clear hok hdr
  by_cases hlt:k < s.size
  ·by_cases hcap:65 <= (s[k].toNat:Int) /\ (s[k].toNat:Int) <= 90
   ·obtain ⟨hc1,hc2⟩:=hcap
    have hcb:=isCap_true _ hc1 hc2
    go_wp2_with fail
    go_quiet (first
     | (go_at_call 117; exact Calls.quiet_of_same (isCapitalAt_calls s k _ hlt))
     | (go_at_call 118; exact Calls.quiet_of_same (indexTo_calls s k _ hlt)))
    go_wp2
    all_goals first
     | (go_round
        case rel=>exact ⟨k + 1,by omega,by go_num,okTo_next s k hlt HN.out (by omega) (by omega) (by omega),drew_more HD.out nq⟩
        case measure=>simp [intOf]; omega)
     | (go_ret
        exact ⟨ret_bool (rightB_bad _ k (by omega) (okAt_bad s k hlt (by omega))).symm,drew_more HD.out nq⟩)
   ·have hcb:=isCap_false (s[k].toNat:Int) (by omega)
    go_wp2_with fail
    go_quiet (first
     | (go_at_call 117; exact Calls.quiet_of_same (isCapitalAt_calls s k _ hlt)))
    go_wp2
    go_ret
    exact ⟨ret_bool (rightB_bad _ k (by omega) (okAt_bad s k hlt (by omega))).symm,drew_more HD.out nq⟩
  ·go_wp2
   go_ret
   exact ⟨ret_bool (rightB_good _ (by omega) (by omega) (by have:=HN.out; rwa [show k = s.data.toList.length from by omega] at this)).symm,HD.out⟩
theorem code_calls (s:ByteArray) (c:Int) (w:World) (hs:s.size <= maxLen) (h0:0 <= c) (h1:c <= 255) :
 Calls Tryz.prog 125 #[Ψ s,.int .u8 c] w fun e w'=>e = Ω (I J (codeB s.data.toList c)) /\ ∃ n,w' = w.drewN n:=by
 unfold codeB
 generalize hr:rightB s.data.toList = r
 cases r with
 | false=>
   have HR:Hid (rightB s.data.toList = false):=hr
   clear hr
   go_enter Tryz.func125,Tryz.ntmps125
   go_wp2_with (go_at_call 82; refine (right_calls s _ hs).mono ?_; rintro e w' ⟨rfl,hd⟩; rw [HR.out])
   go_ret
   exact ⟨rfl,by assumption⟩
 | true=>
   have HR:Hid (rightB s.data.toList = true):=hr
   clear hr
   go_enter Tryz.func125,Tryz.ntmps125
   go_wp2_with (first
    | (go_at_call 82; refine (right_calls s _ hs).mono ?_; rintro e w' ⟨rfl,hd⟩; rw [HR.out]; have HD:Hid (∃ n,w' = w.drewN n):=hd; clear hd)
    | (go_at_call 145; refine (number_calls s c _ h0 h1).mono ?_; rintro e w' ⟨rfl,rfl⟩))
   go_ret
   exact ⟨rfl,Hid.out (by assumption)⟩
end Go.Proofs.YtlaodgdlkkmmeaaGreat.Al
