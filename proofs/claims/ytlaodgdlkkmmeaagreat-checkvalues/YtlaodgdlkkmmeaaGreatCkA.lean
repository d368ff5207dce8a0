/-
  Products without their signs: math/bits.Mul64, size, within, times.
-/
import Derived.Lib.Mul64
import Derived.Laws.Bits64b
import Derived.Test.YtlaodgdlkkmmeaaGreatG08
import Derived.Test.YtlaodgdlkkmmeaaGreatG03
namespace Go.Proofs.YtlaodgdlkkmmeaaGreat
open Go.RowKit
open Go.Value renaming int->I
open Go.IntKind renaming i64->J
open Go.Ending renaming returned->Ω
set_option maxRecDepth 20000
set_option maxHeartbeats 1000000
theorem m64_mask (a:Nat) (ha:a < 18446744073709551616):bits .and .u64 (a:Int) 4294967295 = ((a % 4294967296:Nat):Int):=by
 have h:=bits_and_u64_nat a 4294967295 ha (by omega)
 have e:a &&& 4294967295 = a % 4294967296:=Nat.and_two_pow_sub_one_eq_mod a 32
 rw [e] at h
 exact h
theorem m64_div (a:Nat):(a:Int) / 4294967296 = ((a / 4294967296:Nat):Int):=by omega
theorem m64_mul (a b:Nat):(a:Int) * (b:Int) = ((a * b:Nat):Int):=(Int.natCast_mul a b).symm
theorem m64_add (a b:Nat):(a:Int) + (b:Int) = ((a + b:Nat):Int):=(Int.natCast_add a b).symm
theorem m64_wrap (a:Nat) (ha:a < 18446744073709551616):IntKind.u64.wrap (a:Int) = (a:Int):=by rw [IntKind.wrap_u64]; omega
theorem m64_wrapM (a:Nat):IntKind.u64.wrap (a:Int) = ((a % 18446744073709551616:Nat):Int):=by rw [IntKind.wrap_u64]; omega
theorem mul64_calls (x y:Nat) (hx:x < 18446744073709551616) (hy:y < 18446744073709551616) (w:World) :
 Calls Tryz.prog 115 #[.int .u64 x,.int .u64 y] w fun e w'=>e = Ω (.tuple #[.int .u64 ((x * y / 18446744073709551616:Nat):Int),.int .u64 ((x * y % 18446744073709551616:Nat):Int)]) /\ w' = w:=by
 obtain ⟨bd,bt,bw,hhi⟩:=Lib.mul64_hi x y hx hy
 have ba:=Lib.half_mul_le (a:=x / 4294967296) (b:=y / 4294967296) (by omega) (by omega)
 have bb:=Lib.half_mul_le (a:=x / 4294967296) (b:=y % 4294967296) (by omega) (by omega)
 have bc:=Lib.half_mul_le (a:=x % 4294967296) (b:=y / 4294967296) (by omega) (by omega)
 have ba':x / 4294967296 * (y / 4294967296) < 18446744073709551616:=by omega
 have bb':x / 4294967296 * (y % 4294967296) < 18446744073709551616:=by omega
 have bc':x % 4294967296 * (y / 4294967296) < 18446744073709551616:=by omega
 have bh1:x / 4294967296 * (y / 4294967296) + (x / 4294967296 * (y % 4294967296) + x % 4294967296 * (y % 4294967296) / 4294967296) / 4294967296 < 18446744073709551616:=by omega
 have bh:x / 4294967296 * (y / 4294967296) + (x / 4294967296 * (y % 4294967296) + x % 4294967296 * (y % 4294967296) / 4294967296) / 4294967296 + ((x / 4294967296 * (y % 4294967296) + x % 4294967296 * (y % 4294967296) / 4294967296) % 4294967296 + x % 4294967296 * (y / 4294967296)) / 4294967296 < 18446744073709551616:=by omega
 go_enter Tryz.func115,Tryz.ntmps115
 go_wp2
 simp only [m64_mask x hx,m64_mask y hy,m64_div,m64_mul,m64_add,m64_wrap _ bd,m64_wrap _ bb',m64_wrap _ bt,m64_mask _ bt,m64_wrap _ bc',m64_wrap _ bw,m64_wrap _ ba',m64_wrap _ bh1,m64_wrap _ bh,m64_wrapM (x * y)]
 rw [hhi]
 go_ret2
 exact ⟨rfl,rfl⟩
theorem size_calls (a:Int) (w:World) (h1:-144115188075855872 <= a) (h2:a <= 144115188075855872) :
 Calls Tryz.prog 116 #[I J a] w fun e w'=>e = Ω (.int .u64 ((a.natAbs:Nat):Int)) /\ w' = w:=by
 by_cases h:a < 0
 ·go_enter Tryz.func116,Tryz.ntmps116
  go_wp2
  go_ret
  exact ⟨ret_int (by omega),rfl⟩
 ·have h':0 <= a:=by omega
  go_enter Tryz.func116,Tryz.ntmps116
  go_wp2
  go_ret
  exact ⟨ret_int (by omega),rfl⟩
theorem within_calls (v m:Int) (w:World) (h1:0 <= m) (h2:m <= 144115188075855872) :
 Calls Tryz.prog 80 #[I J v,I J m] w fun e w'=>e = Ω (.bool (inB m v)) /\ w' = w:=by
 by_cases h:-m <= v
 ·have hd:decide (-m <= v) = true:=by simpa using h
  by_cases k:v <= m
  ·have kd:decide (v <= m) = true:=by simpa using k
   go_enter Tryz.func80,Tryz.ntmps80
   go_wp2
   go_ret
   exact ⟨ret_bool (by simp [inB,h,k]),rfl⟩
  ·have kd:decide (v <= m) = false:=by simpa using k
   go_enter Tryz.func80,Tryz.ntmps80
   go_wp2
   go_ret
   exact ⟨ret_bool (by simp [inB,h,k]),rfl⟩
 ·have hd:decide (-m <= v) = false:=by simpa using h
  go_enter Tryz.func80,Tryz.ntmps80
  go_wp2
  go_ret
  exact ⟨ret_bool (by simp [inB]; omega),rfl⟩
theorem abs_mul_le {a b:Int} (p:Nat) (h:a.natAbs * b.natAbs = p):((a < 0) = (b < 0) -> a * b = (p:Int)) /\ ((a < 0) ≠ (b < 0) -> a * b = -(p:Int)):=by
 have e:=Int.natAbs_mul a b
 rw [h] at e
 constructor
 ·intro h1
  have h0:0 <= a * b:=by
   by_cases ha:a < 0
   ·have hb:b < 0:=by rw [<- h1]; exact ha
    exact Int.mul_nonneg_of_nonpos_of_nonpos (by omega) (by omega)
   ·have hb:¬ b < 0:=by rw [<- h1]; exact ha
    exact Int.mul_nonneg (by omega) (by omega)
  omega
 ·intro h1
  have h0:a * b <= 0:=by
   by_cases ha:a < 0
   ·have hb:¬ b < 0:=fun hb=>h1 (by simp [ha,hb])
    exact Int.mul_nonpos_of_nonpos_of_nonneg (by omega) (by omega)
   ·have hb:b < 0:=by
     by_cases hb:b < 0
     ·exact hb
     ·exact absurd (by simp [ha,hb]) h1
    exact Int.mul_nonpos_of_nonneg_of_nonpos (by omega) (by omega)
  omega
theorem iff_p (p:Nat):(-144115188075855872 <= (p:Int) /\ (p:Int) <= 144115188075855872) ↔ p <= 144115188075855872:=by omega
theorem iff_q (p:Nat):(-144115188075855872 <= -(p:Int) /\ -(p:Int) <= 144115188075855872) ↔ p <= 144115188075855872:=by omega
theorem ret_two {a b:Int} {t:Bool} (h:a = b):Ending.returned (.tuple #[I J a,.bool t]) = Ω (.tuple #[I J b,.bool t]):=by rw [h]
/-- times: the product, if it is within. -/
def timesB (a b:Int):Int × Bool:=if inB maxV (a * b) then (a * b,true) else (0,false)
theorem times_calls (a b:Int) (w:World) (ha1:-144115188075855872 <= a) (ha2:a <= 144115188075855872) (hb1:-144115188075855872 <= b) (hb2:b <= 144115188075855872) :
 Calls Tryz.prog 79 #[I J a,I J b] w fun e w'=>e = Ω (.tuple #[I J (timesB a b).1,.bool (timesB a b).2]) /\ w' = w:=by
 have HA:=size_calls a w ha1 ha2
 have HB:=size_calls b w hb1 hb2
 have HM:=mul64_calls a.natAbs b.natAbs (by omega) (by omega) w
 obtain ⟨p,hp⟩:∃ p,a.natAbs * b.natAbs = p:=⟨_,rfl⟩
 have HP:Hid (((a < 0) = (b < 0) -> a * b = (p:Int)) /\ ((a < 0) ≠ (b < 0) -> a * b = -(p:Int))):=abs_mul_le p hp
 rw [hp] at HM
 have HA':=hid HA
 have HB':=hid HB
 obtain ⟨hi,hhi⟩:∃ n,p / 18446744073709551616 = n:=⟨_,rfl⟩
 obtain ⟨lo,hlo⟩:∃ n,p % 18446744073709551616 = n:=⟨_,rfl⟩
 rw [hhi,hlo] at HM
 have HM':=hid HM
 clear HA HB HM hp
 have hin:inB maxV (a * b) = decide (p <= 144115188075855872):=by
  rw [Bool.eq_iff_iff]
  rw [inB_iff,decide_eq_true_iff]
  by_cases h:(a < 0) = (b < 0)
  ·rw [HP.out.1 h]
   exact iff_p p
  ·rw [HP.out.2 h]
   exact iff_q p
 by_cases hbig:p <= 144115188075855872
 ·have h0:hi = 0:=by omega
  have h1:lo = p:=by omega
  subst h1
  subst h0
  have hz:((lo:Int) > 144115188075855872) = False:=by simp; omega
  have hz2:decide ((144115188075855872:Int) < (lo:Int)) = false:=by simp; omega
  have HT:Hid (timesB a b = (a * b,true)):=by show _ = _; unfold timesB; rw [hin,if_pos (by simpa using hbig)]
  have hlo':lo <= 144115188075855872:=hbig
  clear hbig hin hhi hlo hz
  rw [HT.out]
  by_cases sa:a < 0
  ·have da:decide (a < 0) = true:=by simpa using sa
   by_cases sb:b < 0
   ·have db:decide (b < 0) = true:=by simpa using sb
    have HE:Hid (a * b = (lo:Int)):=HP.out.1 (by simp [sa,sb])
    go_enter Tryz.func79,Tryz.ntmps79
    go_wp2_with (first
     | (go_at_call 115; with_reducible refine HM'.out.mono ?_; rintro e w' ⟨rfl,rfl⟩)
     | (go_at_call 116; with_reducible refine HA'.out.mono ?_; rintro e w' ⟨rfl,rfl⟩)
     | (go_at_call 116; with_reducible refine HB'.out.mono ?_; rintro e w' ⟨rfl,rfl⟩))
    go_ret2
    exact ⟨ret_two HE.out.symm,rfl⟩
   ·have sb':0 <= b:=by omega
    have db:decide (b < 0) = false:=by simpa using sb
    have HE:Hid (a * b = -(lo:Int)):=HP.out.2 (by simp [sa,sb])
    go_enter Tryz.func79,Tryz.ntmps79
    go_wp2_with (first
     | (go_at_call 115; with_reducible refine HM'.out.mono ?_; rintro e w' ⟨rfl,rfl⟩)
     | (go_at_call 116; with_reducible refine HA'.out.mono ?_; rintro e w' ⟨rfl,rfl⟩)
     | (go_at_call 116; with_reducible refine HB'.out.mono ?_; rintro e w' ⟨rfl,rfl⟩))
    go_ret2
    exact ⟨ret_two HE.out.symm,rfl⟩
  ·have sa':0 <= a:=by omega
   have da:decide (a < 0) = false:=by simpa using sa
   by_cases sb:b < 0
   ·have db:decide (b < 0) = true:=by simpa using sb
    have HE:Hid (a * b = -(lo:Int)):=HP.out.2 (by simp [sa,sb])
    go_enter Tryz.func79,Tryz.ntmps79
    go_wp2_with (first
     | (go_at_call 115; with_reducible refine HM'.out.mono ?_; rintro e w' ⟨rfl,rfl⟩)
     | (go_at_call 116; with_reducible refine HA'.out.mono ?_; rintro e w' ⟨rfl,rfl⟩)
     | (go_at_call 116; with_reducible refine HB'.out.mono ?_; rintro e w' ⟨rfl,rfl⟩))
    go_ret2
    exact ⟨ret_two HE.out.symm,rfl⟩
   ·have sb':0 <= b:=by omega
    have db:decide (b < 0) = false:=by simpa using sb
    have HE:Hid (a * b = (lo:Int)):=HP.out.1 (by simp [sa,sb])
    go_enter Tryz.func79,Tryz.ntmps79
    go_wp2_with (first
     | (go_at_call 115; with_reducible refine HM'.out.mono ?_; rintro e w' ⟨rfl,rfl⟩)
     | (go_at_call 116; with_reducible refine HA'.out.mono ?_; rintro e w' ⟨rfl,rfl⟩)
     | (go_at_call 116; with_reducible refine HB'.out.mono ?_; rintro e w' ⟨rfl,rfl⟩))
    go_ret2
    exact ⟨ret_two HE.out.symm,rfl⟩
 ·have HT:Hid (timesB a b = (0,false)):=by show _ = _; unfold timesB; rw [hin,if_neg (by simpa using hbig)]
  rw [HT.out]
  by_cases h0:hi = 0
  ·subst h0
   have hz2:decide ((144115188075855872:Int) < (lo:Int)) = true:=by simp; omega
   clear hbig hin hhi hlo
   go_enter Tryz.func79,Tryz.ntmps79
   go_wp2_with (first
    | (go_at_call 115; with_reducible refine HM'.out.mono ?_; rintro e w' ⟨rfl,rfl⟩)
    | (go_at_call 116; with_reducible refine HA'.out.mono ?_; rintro e w' ⟨rfl,rfl⟩)
    | (go_at_call 116; with_reducible refine HB'.out.mono ?_; rintro e w' ⟨rfl,rfl⟩))
   go_ret2
   exact ⟨rfl,rfl⟩
  ·have hz2:((hi:Int) == 0) = false:=by rw [beq_eq_false_iff_ne]; omega
   clear hbig hin hhi hlo
   go_enter Tryz.func79,Tryz.ntmps79
   go_wp2_with (first
    | (go_at_call 115; with_reducible refine HM'.out.mono ?_; rintro e w' ⟨rfl,rfl⟩)
    | (go_at_call 116; with_reducible refine HA'.out.mono ?_; rintro e w' ⟨rfl,rfl⟩)
    | (go_at_call 116; with_reducible refine HB'.out.mono ?_; rintro e w' ⟨rfl,rfl⟩))
   go_ret2
   exact ⟨rfl,rfl⟩
end Go.Proofs.YtlaodgdlkkmmeaaGreat
