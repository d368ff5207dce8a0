/-
  FastaLoose is proved for every text and every pattern: empty lines and bytes 13 more change nothing but lines' numbers. No condition.
-/
import Derived.Test.YtcleejdlmamdhaaRows
import Derived.Test.YtcleejdlmamdhaaReads
import Derived.Test.YtcleejdlmamdhaaRun
namespace Go.Proofs.Ytcleejdlmamdhaa
open Go.RowKit

def fP (pat : Int) (k : Nat) : Bool := bits BinOp.and IntKind.i64 (bits BinOp.and IntKind.i64 (pat / 2 ^ (k % 60)) 3) 1 == 1
def gP (pat : Int) (k : Nat) : Bool := bits BinOp.and IntKind.i64 (bits BinOp.and IntKind.i64 (pat / 2 ^ (k % 60)) 3) 2 == 2
/-- The byte ahead of place k. -/
def prevOf (s : ByteArray) (k : Nat) : Option UInt8 := (s.data.toList.take k).getLast?
theorem prev_zero (s : ByteArray) : prevOf s 0 = none := by simp [prevOf]
theorem prev_succ (s : ByteArray) (k : Nat) (h : k < s.size) : prevOf s (k + 1) = some s[k] := by unfold prevOf; rw [take_snoc s k h]; simp
theorem loose_next (f g : Nat → Bool) (s : ByteArray) (k : Nat) (h : k < s.size) : looseGo f g (prevOf s k) k (s.data.toList.drop k) =
    (if s[k] = 10 ∧ f k = true ∧ prevOf s k ≠ some 13 then [13] else []) ++ (s[k] :: ((if s[k] = 10 ∧ g k = true then [10] else []) ++ looseGo f g (prevOf s (k + 1)) (k + 1) (s.data.toList.drop (k + 1)))) := by
  rw [drop_cons s k h, prev_succ s k h]; rfl
def LoosePost (s : ByteArray) (w : World) (e : Ending) (w' : World) : Prop :=
  ∃ f g t, e = .returned (.string t) ∧ t.data.toList = looseGo f g none 0 s.data.toList ∧ Below w.heap.size w w'
theorem byteVals_snoc (l : List UInt8) (c : UInt8) : byteVals (l ++ [c]) = byteVals l ++ [.int .u8 (c.toNat : Int)] := by simp [byteVals]

set_option maxHeartbeats 8000000 in
theorem loose_calls (s : ByteArray) (pat : Int) (w : World) (hs : s.size ≤ 715827882) : Calls Try.prog 15 #[.string s, .int .i64 pat] w fun e w' => LoosePost s w e w' := by
  obtain ⟨i0, hi, hz0, hz1, hz2⟩ := info_parts info5
  go_enter Try.func15, Try.ntmps15
  go_wp2
  go_loopw [5, 6] (fun v c wr => ∃ (k : Nat) (out : List UInt8), k ≤ s.size ∧ c = .int .i64 k ∧ wr.ownsRow w.heap.size 5 1 v out.length (byteVals out) ∧ Below w.heap.size w wr ∧ out.length ≤ 3 * k ∧ out ++ looseGo (fP pat) (gP pat) (prevOf s k) k (s.data.toList.drop k) = looseGo (fP pat) (gP pat) none 0 s.data.toList) (fun _ c _ => s.size - (intOf c).toNat)
  case atStart => exact ⟨0, [], Nat.zero_le _, rfl, World.ownsRow_nil _ _ _ _, Below.refl _ _, by simp, by rw [prev_zero]; rfl⟩
  case round =>
    obtain ⟨k, out, hk, rfl, hown, hbel, hol, hout⟩ := hrel
    obtain ⟨ao0, cap0, rfl⟩ := owned_shape hown
    generalize hln : out.length = ln at *
    have HLN : Hid (out.length = ln) := hln
    clear hln
    have HO0 : Hid (wr.ownsRow w.heap.size 5 1 (.slice ao0 ln cap0) ln (byteVals out)) := hown
    have HB0 : Hid (Below w.heap.size w wr) := hbel
    have HE : Hid (out ++ looseGo (fP pat) (gP pat) (prevOf s k) k (s.data.toList.drop k) = looseGo (fP pat) (gP pat) none 0 s.data.toList) := hout
    have hsz0 : w.heap.size ≤ wr.heap.size := hbel.size
    clear hown hbel hout
    by_cases hlt : k < s.size
    · have HNx : Hid (looseGo (fP pat) (gP pat) (prevOf s k) k (s.data.toList.drop k) = (if s[k] = 10 ∧ fP pat k = true ∧ prevOf s k ≠ some 13 then [13] else []) ++ (s[k] :: ((if s[k] = 10 ∧ gP pat k = true then [10] else []) ++ looseGo (fP pat) (gP pat) (prevOf s (k + 1)) (k + 1) (s.data.toList.drop (k + 1))))) := loose_next (fP pat) (gP pat) s k hlt
      by_cases hc : (s[k].toNat : Int) = 10
      · have hd10 : ((s[k].toNat : Int) == 10) = true := by simp [hc]
        have hc10 : s[k] = 10 := byte_is (n := 10) hc
        have HC10 : Hid (s[k] = 10) := hc10
        clear hc hc10
        cases hg : gP pat k with
        | true =>
          have hdg : (bits BinOp.and IntKind.i64 (bits BinOp.and IntKind.i64 (pat / 2 ^ (k % 60)) 3) 2 == 2) = true := hg
          have HG : Hid (gP pat k = true) := hg
          clear hg
          cases hf : fP pat k with
          | false =>
            have hdf : (bits BinOp.and IntKind.i64 (bits BinOp.and IntKind.i64 (pat / 2 ^ (k % 60)) 3) 1 == 1) = false := hf
            have H13 : Hid (¬ (s[k] = 10 ∧ fP pat k = true ∧ prevOf s k ≠ some 13)) := fun h => by rw [hf] at h; exact absurd h.2.1 (by decide)
            clear hf
            go_wp2_with (at_builtin; go_loud (refine wpList_append_own _ rfl _ _ 43 rfl w.heap.size 5 i0 (.int .u8 0) 1 1 Try.underlying43 hi hz0 hz1 hz2 rfl (by decide) _ _ _ rfl (HO0.out.alloc _) ⟨_, 0, none⟩ 1 1 [.int .u8 (s[k].toNat : Int)] rfl rfl ?c1 ?c2 ?c3 ?c4 ?c5 ?_))
            case c1 =>
              intro i u hu
              match i, hu with
              | 0, hu => simp at hu; subst hu; simp [Addr.add]
            case c2 => intro u hu; simp at hu; subst hu; rfl
            case c3 => unfold maxLen; omega
            case c4 => omega
            case c5 => simp; omega
            intro v1 w1x ho1 hg1 _
            obtain ⟨ao1, cap1, rfl⟩ := owned_shape ho1
            have HO1 : Hid (w1x.ownsRow w.heap.size 5 1 (.slice ao1 (ln + 1) cap1) (ln + 1) (byteVals (out ++ [s[k]]))) := by
              show World.ownsRow _ _ _ _ _ _ _
              simpa [byteVals] using ho1
            have HB1 : Hid (Below w.heap.size w w1x) := (HB0.out.alloc hsz0 _).grown hg1 (by simp; omega) (fun k hk => (HO0.out.lt k hk).1)
            have hsz1 : w.heap.size ≤ w1x.heap.size := HB1.out.size
            clear ho1 hg1 HO0 HB0
            go_wp2_with (at_builtin; go_loud (refine wpList_append_own _ rfl _ _ 43 rfl w.heap.size 5 i0 (.int .u8 0) 1 1 Try.underlying43 hi hz0 hz1 hz2 rfl (by decide) _ _ _ rfl (HO1.out.alloc _) ⟨_, 0, none⟩ 1 1 [.int .u8 10] rfl rfl ?c1 ?c2 ?c3 ?c4 ?c5 ?_))
            case c1 =>
              intro i u hu
              match i, hu with
              | 0, hu => simp at hu; subst hu; simp [Addr.add]
            case c2 => intro u hu; simp at hu; subst hu; rfl
            case c3 => unfold maxLen; omega
            case c4 => omega
            case c5 => simp; omega
            intro v2 w2x ho2 hg2 _
            obtain ⟨ao2, cap2, rfl⟩ := owned_shape ho2
            have HO2 : Hid (w2x.ownsRow w.heap.size 5 1 (.slice ao2 (ln + 2) cap2) (ln + 2) (byteVals (out ++ [s[k]] ++ [10]))) := by
              show World.ownsRow _ _ _ _ _ _ _
              simpa [byteVals] using ho2
            have HB2 : Hid (Below w.heap.size w w2x) := (HB1.out.alloc hsz1 _).grown hg2 (by simp; omega) (fun k hk => (HO1.out.lt k hk).1)
            have hsz2 : w.heap.size ≤ w2x.heap.size := HB2.out.size
            clear ho2 hg2 HO1 HB1
            go_wp2
            go_roundw
            case rel =>
              refine ⟨k + 1, out ++ [s[k]] ++ [10], by omega, by go_num, ?_, HB2.out, by simp [HLN.out]; omega, ?_⟩
              · have hl : (out ++ [s[k]] ++ [10]).length = ln + 2 := by simp [HLN.out]
                rw [hl]; exact HO2.out
              · rw [← HE.out, HNx.out]
                rw [if_neg H13.out, if_pos ⟨HC10.out, HG.out⟩]; simp
            case measure => simp [intOf]; omega
          | true =>
            have hdf : (bits BinOp.and IntKind.i64 (bits BinOp.and IntKind.i64 (pat / 2 ^ (k % 60)) 3) 1 == 1) = true := hf
            have HFt : Hid (fP pat k = true) := hf
            clear hf
            by_cases hk0 : k = 0
            · have hdk : ((k : Int) == 0) = true := by simp [hk0]
              have H13 : Hid (s[k] = 10 ∧ fP pat k = true ∧ prevOf s k ≠ some 13) := ⟨HC10.out, HFt.out, by rw [hk0, prev_zero]; simp⟩
              clear hk0
              go_wp2_with (at_builtin; go_loud (refine wpList_append_own _ rfl _ _ 43 rfl w.heap.size 5 i0 (.int .u8 0) 1 1 Try.underlying43 hi hz0 hz1 hz2 rfl (by decide) _ _ _ rfl (HO0.out.alloc _) ⟨_, 0, none⟩ 1 1 [.int .u8 13] rfl rfl ?c1 ?c2 ?c3 ?c4 ?c5 ?_))
              case c1 =>
                intro i u hu
                match i, hu with
                | 0, hu => simp at hu; subst hu; simp [Addr.add]
              case c2 => intro u hu; simp at hu; subst hu; rfl
              case c3 => unfold maxLen; omega
              case c4 => omega
              case c5 => simp; omega
              intro v1 w1x ho1 hg1 _
              obtain ⟨ao1, cap1, rfl⟩ := owned_shape ho1
              have HO1 : Hid (w1x.ownsRow w.heap.size 5 1 (.slice ao1 (ln + 1) cap1) (ln + 1) (byteVals (out ++ [13]))) := by
                show World.ownsRow _ _ _ _ _ _ _
                simpa [byteVals] using ho1
              have HB1 : Hid (Below w.heap.size w w1x) := (HB0.out.alloc hsz0 _).grown hg1 (by simp; omega) (fun k hk => (HO0.out.lt k hk).1)
              have hsz1 : w.heap.size ≤ w1x.heap.size := HB1.out.size
              clear ho1 hg1 HO0 HB0
              go_wp2_with (at_builtin; go_loud (refine wpList_append_own _ rfl _ _ 43 rfl w.heap.size 5 i0 (.int .u8 0) 1 1 Try.underlying43 hi hz0 hz1 hz2 rfl (by decide) _ _ _ rfl (HO1.out.alloc _) ⟨_, 0, none⟩ 1 1 [.int .u8 (s[k].toNat : Int)] rfl rfl ?c1 ?c2 ?c3 ?c4 ?c5 ?_))
              case c1 =>
                intro i u hu
                match i, hu with
                | 0, hu => simp at hu; subst hu; simp [Addr.add]
              case c2 => intro u hu; simp at hu; subst hu; rfl
              case c3 => unfold maxLen; omega
              case c4 => omega
              case c5 => simp; omega
              intro v2 w2x ho2 hg2 _
              obtain ⟨ao2, cap2, rfl⟩ := owned_shape ho2
              have HO2 : Hid (w2x.ownsRow w.heap.size 5 1 (.slice ao2 (ln + 2) cap2) (ln + 2) (byteVals (out ++ [13] ++ [s[k]]))) := by
                show World.ownsRow _ _ _ _ _ _ _
                simpa [byteVals] using ho2
              have HB2 : Hid (Below w.heap.size w w2x) := (HB1.out.alloc hsz1 _).grown hg2 (by simp; omega) (fun k hk => (HO1.out.lt k hk).1)
              have hsz2 : w.heap.size ≤ w2x.heap.size := HB2.out.size
              clear ho2 hg2 HO1 HB1
              go_wp2_with (at_builtin; go_loud (refine wpList_append_own _ rfl _ _ 43 rfl w.heap.size 5 i0 (.int .u8 0) 1 1 Try.underlying43 hi hz0 hz1 hz2 rfl (by decide) _ _ _ rfl (HO2.out.alloc _) ⟨_, 0, none⟩ 1 1 [.int .u8 10] rfl rfl ?c1 ?c2 ?c3 ?c4 ?c5 ?_))
              case c1 =>
                intro i u hu
                match i, hu with
                | 0, hu => simp at hu; subst hu; simp [Addr.add]
              case c2 => intro u hu; simp at hu; subst hu; rfl
              case c3 => unfold maxLen; omega
              case c4 => omega
              case c5 => simp; omega
              intro v3 w3x ho3 hg3 _
              obtain ⟨ao3, cap3, rfl⟩ := owned_shape ho3
              have HO3 : Hid (w3x.ownsRow w.heap.size 5 1 (.slice ao3 (ln + 3) cap3) (ln + 3) (byteVals (out ++ [13] ++ [s[k]] ++ [10]))) := by
                show World.ownsRow _ _ _ _ _ _ _
                simpa [byteVals] using ho3
              have HB3 : Hid (Below w.heap.size w w3x) := (HB2.out.alloc hsz2 _).grown hg3 (by simp; omega) (fun k hk => (HO2.out.lt k hk).1)
              have hsz3 : w.heap.size ≤ w3x.heap.size := HB3.out.size
              clear ho3 hg3 HO2 HB2
              go_wp2
              go_roundw
              case rel =>
                refine ⟨k + 1, out ++ [13] ++ [s[k]] ++ [10], by omega, by go_num, ?_, HB3.out, by simp [HLN.out]; omega, ?_⟩
                · have hl : (out ++ [13] ++ [s[k]] ++ [10]).length = ln + 3 := by simp [HLN.out]
                  rw [hl]; exact HO3.out
                · rw [← HE.out, HNx.out]
                  rw [if_pos H13.out, if_pos ⟨HC10.out, HG.out⟩]; simp
              case measure => simp [intOf]; omega
            · have hdk : ((k : Int) == 0) = false := by simp; omega
              have hkp : k - 1 < s.size := by omega
              have hpr : prevOf s k = some s[k - 1] := by
                have := prev_succ s (k - 1) hkp; rwa [show k - 1 + 1 = k by omega] at this
              by_cases h13 : (s[k - 1].toNat : Int) = 13
              · have hd13 : ((s[k - 1].toNat : Int) == 13) = true := by simp [h13]
                have H13 : Hid (¬ (s[k] = 10 ∧ fP pat k = true ∧ prevOf s k ≠ some 13)) := fun h => h.2.2 (by rw [hpr, show s[k - 1] = 13 from byte_is (n := 13) h13])
                clear h13 hpr
                go_wp2_with (at_builtin; go_loud (refine wpList_append_own _ rfl _ _ 43 rfl w.heap.size 5 i0 (.int .u8 0) 1 1 Try.underlying43 hi hz0 hz1 hz2 rfl (by decide) _ _ _ rfl (HO0.out.alloc _) ⟨_, 0, none⟩ 1 1 [.int .u8 (s[k].toNat : Int)] rfl rfl ?c1 ?c2 ?c3 ?c4 ?c5 ?_))
                case c1 =>
                  intro i u hu
                  match i, hu with
                  | 0, hu => simp at hu; subst hu; simp [Addr.add]
                case c2 => intro u hu; simp at hu; subst hu; rfl
                case c3 => unfold maxLen; omega
                case c4 => omega
                case c5 => simp; omega
                intro v1 w1x ho1 hg1 _
                obtain ⟨ao1, cap1, rfl⟩ := owned_shape ho1
                have HO1 : Hid (w1x.ownsRow w.heap.size 5 1 (.slice ao1 (ln + 1) cap1) (ln + 1) (byteVals (out ++ [s[k]]))) := by
                  show World.ownsRow _ _ _ _ _ _ _
                  simpa [byteVals] using ho1
                have HB1 : Hid (Below w.heap.size w w1x) := (HB0.out.alloc hsz0 _).grown hg1 (by simp; omega) (fun k hk => (HO0.out.lt k hk).1)
                have hsz1 : w.heap.size ≤ w1x.heap.size := HB1.out.size
                clear ho1 hg1 HO0 HB0
                go_wp2_with (at_builtin; go_loud (refine wpList_append_own _ rfl _ _ 43 rfl w.heap.size 5 i0 (.int .u8 0) 1 1 Try.underlying43 hi hz0 hz1 hz2 rfl (by decide) _ _ _ rfl (HO1.out.alloc _) ⟨_, 0, none⟩ 1 1 [.int .u8 10] rfl rfl ?c1 ?c2 ?c3 ?c4 ?c5 ?_))
                case c1 =>
                  intro i u hu
                  match i, hu with
                  | 0, hu => simp at hu; subst hu; simp [Addr.add]
                case c2 => intro u hu; simp at hu; subst hu; rfl
                case c3 => unfold maxLen; omega
                case c4 => omega
                case c5 => simp; omega
                intro v2 w2x ho2 hg2 _
                obtain ⟨ao2, cap2, rfl⟩ := owned_shape ho2
                have HO2 : Hid (w2x.ownsRow w.heap.size 5 1 (.slice ao2 (ln + 2) cap2) (ln + 2) (byteVals (out ++ [s[k]] ++ [10]))) := by
                  show World.ownsRow _ _ _ _ _ _ _
                  simpa [byteVals] using ho2
                have HB2 : Hid (Below w.heap.size w w2x) := (HB1.out.alloc hsz1 _).grown hg2 (by simp; omega) (fun k hk => (HO1.out.lt k hk).1)
                have hsz2 : w.heap.size ≤ w2x.heap.size := HB2.out.size
                clear ho2 hg2 HO1 HB1
                go_wp2
                go_roundw
                case rel =>
                  refine ⟨k + 1, out ++ [s[k]] ++ [10], by omega, by go_num, ?_, HB2.out, by simp [HLN.out]; omega, ?_⟩
                  · have hl : (out ++ [s[k]] ++ [10]).length = ln + 2 := by simp [HLN.out]
                    rw [hl]; exact HO2.out
                  · rw [← HE.out, HNx.out]
                    rw [if_neg H13.out, if_pos ⟨HC10.out, HG.out⟩]; simp
                case measure => simp [intOf]; omega
              · have hd13 : ((s[k - 1].toNat : Int) == 13) = false := by simp [h13]
                have H13 : Hid (s[k] = 10 ∧ fP pat k = true ∧ prevOf s k ≠ some 13) := ⟨HC10.out, HFt.out, by rw [hpr]; intro e; exact byte_ne (n := 13) (by decide) h13 (Option.some.inj e)⟩
                clear h13 hpr
                go_wp2_with (at_builtin; go_loud (refine wpList_append_own _ rfl _ _ 43 rfl w.heap.size 5 i0 (.int .u8 0) 1 1 Try.underlying43 hi hz0 hz1 hz2 rfl (by decide) _ _ _ rfl (HO0.out.alloc _) ⟨_, 0, none⟩ 1 1 [.int .u8 13] rfl rfl ?c1 ?c2 ?c3 ?c4 ?c5 ?_))
                case c1 =>
                  intro i u hu
                  match i, hu with
                  | 0, hu => simp at hu; subst hu; simp [Addr.add]
                case c2 => intro u hu; simp at hu; subst hu; rfl
                case c3 => unfold maxLen; omega
                case c4 => omega
                case c5 => simp; omega
                intro v1 w1x ho1 hg1 _
                obtain ⟨ao1, cap1, rfl⟩ := owned_shape ho1
                have HO1 : Hid (w1x.ownsRow w.heap.size 5 1 (.slice ao1 (ln + 1) cap1) (ln + 1) (byteVals (out ++ [13]))) := by
                  show World.ownsRow _ _ _ _ _ _ _
                  simpa [byteVals] using ho1
                have HB1 : Hid (Below w.heap.size w w1x) := (HB0.out.alloc hsz0 _).grown hg1 (by simp; omega) (fun k hk => (HO0.out.lt k hk).1)
                have hsz1 : w.heap.size ≤ w1x.heap.size := HB1.out.size
                clear ho1 hg1 HO0 HB0
                go_wp2_with (at_builtin; go_loud (refine wpList_append_own _ rfl _ _ 43 rfl w.heap.size 5 i0 (.int .u8 0) 1 1 Try.underlying43 hi hz0 hz1 hz2 rfl (by decide) _ _ _ rfl (HO1.out.alloc _) ⟨_, 0, none⟩ 1 1 [.int .u8 (s[k].toNat : Int)] rfl rfl ?c1 ?c2 ?c3 ?c4 ?c5 ?_))
                case c1 =>
                  intro i u hu
                  match i, hu with
                  | 0, hu => simp at hu; subst hu; simp [Addr.add]
                case c2 => intro u hu; simp at hu; subst hu; rfl
                case c3 => unfold maxLen; omega
                case c4 => omega
                case c5 => simp; omega
                intro v2 w2x ho2 hg2 _
                obtain ⟨ao2, cap2, rfl⟩ := owned_shape ho2
                have HO2 : Hid (w2x.ownsRow w.heap.size 5 1 (.slice ao2 (ln + 2) cap2) (ln + 2) (byteVals (out ++ [13] ++ [s[k]]))) := by
                  show World.ownsRow _ _ _ _ _ _ _
                  simpa [byteVals] using ho2
                have HB2 : Hid (Below w.heap.size w w2x) := (HB1.out.alloc hsz1 _).grown hg2 (by simp; omega) (fun k hk => (HO1.out.lt k hk).1)
                have hsz2 : w.heap.size ≤ w2x.heap.size := HB2.out.size
                clear ho2 hg2 HO1 HB1
                go_wp2_with (at_builtin; go_loud (refine wpList_append_own _ rfl _ _ 43 rfl w.heap.size 5 i0 (.int .u8 0) 1 1 Try.underlying43 hi hz0 hz1 hz2 rfl (by decide) _ _ _ rfl (HO2.out.alloc _) ⟨_, 0, none⟩ 1 1 [.int .u8 10] rfl rfl ?c1 ?c2 ?c3 ?c4 ?c5 ?_))
                case c1 =>
                  intro i u hu
                  match i, hu with
                  | 0, hu => simp at hu; subst hu; simp [Addr.add]
                case c2 => intro u hu; simp at hu; subst hu; rfl
                case c3 => unfold maxLen; omega
                case c4 => omega
                case c5 => simp; omega
                intro v3 w3x ho3 hg3 _
                obtain ⟨ao3, cap3, rfl⟩ := owned_shape ho3
                have HO3 : Hid (w3x.ownsRow w.heap.size 5 1 (.slice ao3 (ln + 3) cap3) (ln + 3) (byteVals (out ++ [13] ++ [s[k]] ++ [10]))) := by
                  show World.ownsRow _ _ _ _ _ _ _
                  simpa [byteVals] using ho3
                have HB3 : Hid (Below w.heap.size w w3x) := (HB2.out.alloc hsz2 _).grown hg3 (by simp; omega) (fun k hk => (HO2.out.lt k hk).1)
                have hsz3 : w.heap.size ≤ w3x.heap.size := HB3.out.size
                clear ho3 hg3 HO2 HB2
                go_wp2
                go_roundw
                case rel =>
                  refine ⟨k + 1, out ++ [13] ++ [s[k]] ++ [10], by omega, by go_num, ?_, HB3.out, by simp [HLN.out]; omega, ?_⟩
                  · have hl : (out ++ [13] ++ [s[k]] ++ [10]).length = ln + 3 := by simp [HLN.out]
                    rw [hl]; exact HO3.out
                  · rw [← HE.out, HNx.out]
                    rw [if_pos H13.out, if_pos ⟨HC10.out, HG.out⟩]; simp
                case measure => simp [intOf]; omega
        | false =>
          have hdg : (bits BinOp.and IntKind.i64 (bits BinOp.and IntKind.i64 (pat / 2 ^ (k % 60)) 3) 2 == 2) = false := hg
          have HG : Hid (gP pat k = false) := hg
          clear hg
          cases hf : fP pat k with
          | false =>
            have hdf : (bits BinOp.and IntKind.i64 (bits BinOp.and IntKind.i64 (pat / 2 ^ (k % 60)) 3) 1 == 1) = false := hf
            have H13 : Hid (¬ (s[k] = 10 ∧ fP pat k = true ∧ prevOf s k ≠ some 13)) := fun h => by rw [hf] at h; exact absurd h.2.1 (by decide)
            clear hf
            go_wp2_with (at_builtin; go_loud (refine wpList_append_own _ rfl _ _ 43 rfl w.heap.size 5 i0 (.int .u8 0) 1 1 Try.underlying43 hi hz0 hz1 hz2 rfl (by decide) _ _ _ rfl (HO0.out.alloc _) ⟨_, 0, none⟩ 1 1 [.int .u8 (s[k].toNat : Int)] rfl rfl ?c1 ?c2 ?c3 ?c4 ?c5 ?_))
            case c1 =>
              intro i u hu
              match i, hu with
              | 0, hu => simp at hu; subst hu; simp [Addr.add]
            case c2 => intro u hu; simp at hu; subst hu; rfl
            case c3 => unfold maxLen; omega
            case c4 => omega
            case c5 => simp; omega
            intro v1 w1x ho1 hg1 _
            obtain ⟨ao1, cap1, rfl⟩ := owned_shape ho1
            have HO1 : Hid (w1x.ownsRow w.heap.size 5 1 (.slice ao1 (ln + 1) cap1) (ln + 1) (byteVals (out ++ [s[k]]))) := by
              show World.ownsRow _ _ _ _ _ _ _
              simpa [byteVals] using ho1
            have HB1 : Hid (Below w.heap.size w w1x) := (HB0.out.alloc hsz0 _).grown hg1 (by simp; omega) (fun k hk => (HO0.out.lt k hk).1)
            have hsz1 : w.heap.size ≤ w1x.heap.size := HB1.out.size
            clear ho1 hg1 HO0 HB0
            go_wp2
            go_roundw
            case rel =>
              refine ⟨k + 1, out ++ [s[k]], by omega, by go_num, ?_, HB1.out, by simp [HLN.out]; omega, ?_⟩
              · have hl : (out ++ [s[k]]).length = ln + 1 := by simp [HLN.out]
                rw [hl]; exact HO1.out
              · rw [← HE.out, HNx.out]
                rw [if_neg H13.out, if_neg (fun h => by rw [HG.out] at h; exact absurd h.2 (by decide))]; simp
            case measure => simp [intOf]; omega
          | true =>
            have hdf : (bits BinOp.and IntKind.i64 (bits BinOp.and IntKind.i64 (pat / 2 ^ (k % 60)) 3) 1 == 1) = true := hf
            have HFt : Hid (fP pat k = true) := hf
            clear hf
            by_cases hk0 : k = 0
            · have hdk : ((k : Int) == 0) = true := by simp [hk0]
              have H13 : Hid (s[k] = 10 ∧ fP pat k = true ∧ prevOf s k ≠ some 13) := ⟨HC10.out, HFt.out, by rw [hk0, prev_zero]; simp⟩
              clear hk0
              go_wp2_with (at_builtin; go_loud (refine wpList_append_own _ rfl _ _ 43 rfl w.heap.size 5 i0 (.int .u8 0) 1 1 Try.underlying43 hi hz0 hz1 hz2 rfl (by decide) _ _ _ rfl (HO0.out.alloc _) ⟨_, 0, none⟩ 1 1 [.int .u8 13] rfl rfl ?c1 ?c2 ?c3 ?c4 ?c5 ?_))
              case c1 =>
                intro i u hu
                match i, hu with
                | 0, hu => simp at hu; subst hu; simp [Addr.add]
              case c2 => intro u hu; simp at hu; subst hu; rfl
              case c3 => unfold maxLen; omega
              case c4 => omega
              case c5 => simp; omega
              intro v1 w1x ho1 hg1 _
              obtain ⟨ao1, cap1, rfl⟩ := owned_shape ho1
              have HO1 : Hid (w1x.ownsRow w.heap.size 5 1 (.slice ao1 (ln + 1) cap1) (ln + 1) (byteVals (out ++ [13]))) := by
                show World.ownsRow _ _ _ _ _ _ _
                simpa [byteVals] using ho1
              have HB1 : Hid (Below w.heap.size w w1x) := (HB0.out.alloc hsz0 _).grown hg1 (by simp; omega) (fun k hk => (HO0.out.lt k hk).1)
              have hsz1 : w.heap.size ≤ w1x.heap.size := HB1.out.size
              clear ho1 hg1 HO0 HB0
              go_wp2_with (at_builtin; go_loud (refine wpList_append_own _ rfl _ _ 43 rfl w.heap.size 5 i0 (.int .u8 0) 1 1 Try.underlying43 hi hz0 hz1 hz2 rfl (by decide) _ _ _ rfl (HO1.out.alloc _) ⟨_, 0, none⟩ 1 1 [.int .u8 (s[k].toNat : Int)] rfl rfl ?c1 ?c2 ?c3 ?c4 ?c5 ?_))
              case c1 =>
                intro i u hu
                match i, hu with
                | 0, hu => simp at hu; subst hu; simp [Addr.add]
              case c2 => intro u hu; simp at hu; subst hu; rfl
              case c3 => unfold maxLen; omega
              case c4 => omega
              case c5 => simp; omega
              intro v2 w2x ho2 hg2 _
              obtain ⟨ao2, cap2, rfl⟩ := owned_shape ho2
              have HO2 : Hid (w2x.ownsRow w.heap.size 5 1 (.slice ao2 (ln + 2) cap2) (ln + 2) (byteVals (out ++ [13] ++ [s[k]]))) := by
                show World.ownsRow _ _ _ _ _ _ _
                simpa [byteVals] using ho2
              have HB2 : Hid (Below w.heap.size w w2x) := (HB1.out.alloc hsz1 _).grown hg2 (by simp; omega) (fun k hk => (HO1.out.lt k hk).1)
              have hsz2 : w.heap.size ≤ w2x.heap.size := HB2.out.size
              clear ho2 hg2 HO1 HB1
              go_wp2
              go_roundw
              case rel =>
                refine ⟨k + 1, out ++ [13] ++ [s[k]], by omega, by go_num, ?_, HB2.out, by simp [HLN.out]; omega, ?_⟩
                · have hl : (out ++ [13] ++ [s[k]]).length = ln + 2 := by simp [HLN.out]
                  rw [hl]; exact HO2.out
                · rw [← HE.out, HNx.out]
                  rw [if_pos H13.out, if_neg (fun h => by rw [HG.out] at h; exact absurd h.2 (by decide))]; simp
              case measure => simp [intOf]; omega
            · have hdk : ((k : Int) == 0) = false := by simp; omega
              have hkp : k - 1 < s.size := by omega
              have hpr : prevOf s k = some s[k - 1] := by
                have := prev_succ s (k - 1) hkp; rwa [show k - 1 + 1 = k by omega] at this
              by_cases h13 : (s[k - 1].toNat : Int) = 13
              · have hd13 : ((s[k - 1].toNat : Int) == 13) = true := by simp [h13]
                have H13 : Hid (¬ (s[k] = 10 ∧ fP pat k = true ∧ prevOf s k ≠ some 13)) := fun h => h.2.2 (by rw [hpr, show s[k - 1] = 13 from byte_is (n := 13) h13])
                clear h13 hpr
                go_wp2_with (at_builtin; go_loud (refine wpList_append_own _ rfl _ _ 43 rfl w.heap.size 5 i0 (.int .u8 0) 1 1 Try.underlying43 hi hz0 hz1 hz2 rfl (by decide) _ _ _ rfl (HO0.out.alloc _) ⟨_, 0, none⟩ 1 1 [.int .u8 (s[k].toNat : Int)] rfl rfl ?c1 ?c2 ?c3 ?c4 ?c5 ?_))
                case c1 =>
                  intro i u hu
                  match i, hu with
                  | 0, hu => simp at hu; subst hu; simp [Addr.add]
                case c2 => intro u hu; simp at hu; subst hu; rfl
                case c3 => unfold maxLen; omega
                case c4 => omega
                case c5 => simp; omega
                intro v1 w1x ho1 hg1 _
                obtain ⟨ao1, cap1, rfl⟩ := owned_shape ho1
                have HO1 : Hid (w1x.ownsRow w.heap.size 5 1 (.slice ao1 (ln + 1) cap1) (ln + 1) (byteVals (out ++ [s[k]]))) := by
                  show World.ownsRow _ _ _ _ _ _ _
                  simpa [byteVals] using ho1
                have HB1 : Hid (Below w.heap.size w w1x) := (HB0.out.alloc hsz0 _).grown hg1 (by simp; omega) (fun k hk => (HO0.out.lt k hk).1)
                have hsz1 : w.heap.size ≤ w1x.heap.size := HB1.out.size
                clear ho1 hg1 HO0 HB0
                go_wp2
                go_roundw
                case rel =>
                  refine ⟨k + 1, out ++ [s[k]], by omega, by go_num, ?_, HB1.out, by simp [HLN.out]; omega, ?_⟩
                  · have hl : (out ++ [s[k]]).length = ln + 1 := by simp [HLN.out]
                    rw [hl]; exact HO1.out
                  · rw [← HE.out, HNx.out]
                    rw [if_neg H13.out, if_neg (fun h => by rw [HG.out] at h; exact absurd h.2 (by decide))]; simp
                case measure => simp [intOf]; omega
              · have hd13 : ((s[k - 1].toNat : Int) == 13) = false := by simp [h13]
                have H13 : Hid (s[k] = 10 ∧ fP pat k = true ∧ prevOf s k ≠ some 13) := ⟨HC10.out, HFt.out, by rw [hpr]; intro e; exact byte_ne (n := 13) (by decide) h13 (Option.some.inj e)⟩
                clear h13 hpr
                go_wp2_with (at_builtin; go_loud (refine wpList_append_own _ rfl _ _ 43 rfl w.heap.size 5 i0 (.int .u8 0) 1 1 Try.underlying43 hi hz0 hz1 hz2 rfl (by decide) _ _ _ rfl (HO0.out.alloc _) ⟨_, 0, none⟩ 1 1 [.int .u8 13] rfl rfl ?c1 ?c2 ?c3 ?c4 ?c5 ?_))
                case c1 =>
                  intro i u hu
                  match i, hu with
                  | 0, hu => simp at hu; subst hu; simp [Addr.add]
                case c2 => intro u hu; simp at hu; subst hu; rfl
                case c3 => unfold maxLen; omega
                case c4 => omega
                case c5 => simp; omega
                intro v1 w1x ho1 hg1 _
                obtain ⟨ao1, cap1, rfl⟩ := owned_shape ho1
                have HO1 : Hid (w1x.ownsRow w.heap.size 5 1 (.slice ao1 (ln + 1) cap1) (ln + 1) (byteVals (out ++ [13]))) := by
                  show World.ownsRow _ _ _ _ _ _ _
                  simpa [byteVals] using ho1
                have HB1 : Hid (Below w.heap.size w w1x) := (HB0.out.alloc hsz0 _).grown hg1 (by simp; omega) (fun k hk => (HO0.out.lt k hk).1)
                have hsz1 : w.heap.size ≤ w1x.heap.size := HB1.out.size
                clear ho1 hg1 HO0 HB0
                go_wp2_with (at_builtin; go_loud (refine wpList_append_own _ rfl _ _ 43 rfl w.heap.size 5 i0 (.int .u8 0) 1 1 Try.underlying43 hi hz0 hz1 hz2 rfl (by decide) _ _ _ rfl (HO1.out.alloc _) ⟨_, 0, none⟩ 1 1 [.int .u8 (s[k].toNat : Int)] rfl rfl ?c1 ?c2 ?c3 ?c4 ?c5 ?_))
                case c1 =>
                  intro i u hu
                  match i, hu with
                  | 0, hu => simp at hu; subst hu; simp [Addr.add]
                case c2 => intro u hu; simp at hu; subst hu; rfl
                case c3 => unfold maxLen; omega
                case c4 => omega
                case c5 => simp; omega
                intro v2 w2x ho2 hg2 _
                obtain ⟨ao2, cap2, rfl⟩ := owned_shape ho2
                have HO2 : Hid (w2x.ownsRow w.heap.size 5 1 (.slice ao2 (ln + 2) cap2) (ln + 2) (byteVals (out ++ [13] ++ [s[k]]))) := by
                  show World.ownsRow _ _ _ _ _ _ _
                  simpa [byteVals] using ho2
                have HB2 : Hid (Below w.heap.size w w2x) := (HB1.out.alloc hsz1 _).grown hg2 (by simp; omega) (fun k hk => (HO1.out.lt k hk).1)
                have hsz2 : w.heap.size ≤ w2x.heap.size := HB2.out.size
                clear ho2 hg2 HO1 HB1
                go_wp2
                go_roundw
                case rel =>
                  refine ⟨k + 1, out ++ [13] ++ [s[k]], by omega, by go_num, ?_, HB2.out, by simp [HLN.out]; omega, ?_⟩
                  · have hl : (out ++ [13] ++ [s[k]]).length = ln + 2 := by simp [HLN.out]
                    rw [hl]; exact HO2.out
                  · rw [← HE.out, HNx.out]
                    rw [if_pos H13.out, if_neg (fun h => by rw [HG.out] at h; exact absurd h.2 (by decide))]; simp
                case measure => simp [intOf]; omega
      · have hd10 : ((s[k].toNat : Int) == 10) = false := by simp [hc]
        have HN10 : Hid (¬ s[k] = 10) := byte_ne (n := 10) (by decide) hc
        clear hc
        go_wp2_with (at_builtin; go_loud (refine wpList_append_own _ rfl _ _ 43 rfl w.heap.size 5 i0 (.int .u8 0) 1 1 Try.underlying43 hi hz0 hz1 hz2 rfl (by decide) _ _ _ rfl (HO0.out.alloc _) ⟨_, 0, none⟩ 1 1 [.int .u8 (s[k].toNat : Int)] rfl rfl ?c1 ?c2 ?c3 ?c4 ?c5 ?_))
        case c1 =>
          intro i u hu
          match i, hu with
          | 0, hu => simp at hu; subst hu; simp [Addr.add]
        case c2 => intro u hu; simp at hu; subst hu; rfl
        case c3 => unfold maxLen; omega
        case c4 => omega
        case c5 => simp; omega
        intro v1 w1x ho1 hg1 _
        obtain ⟨ao1, cap1, rfl⟩ := owned_shape ho1
        have HO1 : Hid (w1x.ownsRow w.heap.size 5 1 (.slice ao1 (ln + 1) cap1) (ln + 1) (byteVals (out ++ [s[k]]))) := by
          show World.ownsRow _ _ _ _ _ _ _
          simpa [byteVals] using ho1
        have HB1 : Hid (Below w.heap.size w w1x) := (HB0.out.alloc hsz0 _).grown hg1 (by simp; omega) (fun k hk => (HO0.out.lt k hk).1)
        have hsz1 : w.heap.size ≤ w1x.heap.size := HB1.out.size
        clear ho1 hg1 HO0 HB0
        go_wp2
        go_roundw
        case rel =>
          refine ⟨k + 1, out ++ [s[k]], by omega, by go_num, ?_, HB1.out, by simp [HLN.out]; omega, ?_⟩
          · have hl : (out ++ [s[k]]).length = ln + 1 := by simp [HLN.out]
            rw [hl]; exact HO1.out
          · rw [← HE.out, HNx.out]
            rw [if_neg (fun h => HN10.out h.1), if_neg (fun h => HN10.out h.1)]; simp
        case measure => simp [intOf]; omega
    · have hconv := owned_text HO0.out
      have HF : Hid (out = looseGo (fP pat) (gP pat) none 0 s.data.toList) := by
        have h1 := HE.out
        rw [List.drop_of_length_le (by simp; omega)] at h1
        show _ = _
        simpa [looseGo] using h1
      have hdk : decide ((k : Int) < (s.size : Int)) = false := by simp; omega
      go_wp2
      go_ret
      exact ⟨fP pat, gP pat, ⟨out.toArray⟩, rfl, by rw [mk_list, HF.out], HB0.out⟩

set_option maxRecDepth 100000 in
set_option maxHeartbeats 8000000 in
theorem loose_walk (text : ByteArray) (pat : Int) (w : World) (ht : text.size ≤ maxLen) (_ : (Lit.int .i64 pat).wf = true) : Calls Try.prog 6 #[.string text, .int .i64 pat] w fun e w' => e = .returned (.bool true) ∧ Below w.heap.size w w' := by
  unfold maxLen at ht
  by_cases h1 : 715827882 < text.size
  · have hd : decide ((715827882 : Int) < text.size) = true := by simp; omega
    go_enter Try.func6, Try.ntmps6
    go_wp2
    go_ret
    exact ⟨rfl, Below.refl _ _⟩
  have hd1 : decide ((715827882 : Int) < text.size) = false := by simp; omega
  go_enter Try.func6, Try.ntmps6
  go_wp2_with fail
  refine (awake_calls w).mono ?_
  rintro e w1 ⟨rfl, hb1⟩
  have HB1 : Hid (Below w.heap.size w w1) := hb1
  clear hb1
  go_wp2_with fail
  refine (parse_calls text w1).mono ?_
  rintro e w2 ⟨lv, qs, rfl, hlo, hlq, hb2⟩
  have HQ : Hid (qs.map Sq.P = (parseB text.data.toList).1) := hlq
  have HLO : Hid (w2.ownsRow w1.heap.size 29 3 lv qs.length (rowCells qs)) := hlo
  have HB2 : Hid (Below w.heap.size w w2) := HB1.out.trans (hb2.mono HB1.out.size)
  obtain ⟨lao, lcap, rfl⟩ := owned_shape hlo
  clear hlo hlq hb2
  go_wp2_with fail
  refine (loose_calls text pat w2 (by omega)).mono ?_
  rintro e w3 ⟨f, g, t, rfl, htl, hb3⟩
  have HT : Hid (t.data.toList = looseGo f g none 0 text.data.toList) := htl
  have HLO3 : Hid (w3.ownsRow w1.heap.size 29 3 (.slice lao qs.length lcap) qs.length (rowCells qs)) := owned_below HLO.out hb3
  have HB3 : Hid (Below w.heap.size w w3) := HB2.out.trans (hb3.mono HB2.out.size)
  have hts : t.size ≤ 2147483646 := by
    have := (loose_length f g text.data.toList none 0).2
    rw [← htl, size_toList, size_toList] at this; omega
  clear htl hb3 HLO HB2
  go_wp2_with fail
  refine (parse_calls t w3).mono ?_
  rintro e w4 ⟨mv, ms, rfl, hmo, hmq, hb4⟩
  obtain ⟨mao, mcap, rfl⟩ := owned_shape hmo
  have HM : Hid (ms.map Sq.P = (parseB t.data.toList).1) := hmq
  have HB4 : Hid (Below w.heap.size w w4) := HB3.out.trans (hb4.mono HB3.out.size)
  have HSame : Hid (Calls Try.prog 11 #[.slice lao qs.length lcap, .slice mao ms.length mcap] w4 fun e w' => e = .returned (.bool (decide (qs.map Sq.P = ms.map Sq.P))) ∧ ∃ k, w' = w4.drewN k) := same_calls lao mao _ _ lcap mcap qs ms w4 (owned_sqs (owned_below HLO3.out hb4)) (owned_sqs hmo)
  have HLong : Hid (1048576 < t.size → (parseB t.data.toList).2.2 = 2) := fun h => by rw [parse_long _ (by rw [size_toList]; exact h)]
  have HShort : Hid (t.size ≤ 1048576 → ((parseB text.data.toList).2.2 = 0 ∧ (parseB t.data.toList).2.2 = 0 ∧ (parseB t.data.toList).2.1 = 0 ∧ decide (qs.map Sq.P = ms.map Sq.P) = true) ∨ ((parseB text.data.toList).2.2 = 20 ∧ (parseB t.data.toList).2.2 = 20 ∧ 1 ≤ (parseB t.data.toList).2.1 ∧ ms.length = 0)) := by
    intro h
    have hz : (looseGo f g none 0 text.data.toList).length ≤ 1048576 := by rw [← HT.out, size_toList]; exact h
    rcases parse_loose f g text.data.toList hz with ⟨l, e1, e2⟩ | ⟨j, k, hk, e1, e2⟩
    · refine .inl ?_
      rw [HT.out, HQ.out, HM.out, HT.out, e1, e2]
      exact ⟨rfl, rfl, rfl, by simp⟩
    · refine .inr ?_
      have hm0 : ms.length = 0 := by
        have h2 := congrArg List.length HM.out
        rw [List.length_map, HT.out, e2] at h2; exact h2
      rw [HT.out, e1, e2]
      exact ⟨rfl, rfl, hk, hm0⟩
  clear hmo hmq hb4 HLO3 HB3 HT HQ HM
  generalize (parseB text.data.toList).2.2 = e0 at *
  generalize (parseB text.data.toList).2.1 = j0 at *
  generalize (parseB t.data.toList).2.2 = e1 at *
  generalize (parseB t.data.toList).2.1 = j1 at *
  generalize decide (qs.map Sq.P = ms.map Sq.P) = al at *
  generalize qs.length = n at *
  generalize ms.length = m at *
  go_wp2_with fail
  refine HSame.out.mono ?_
  rintro e w5 ⟨rfl, kd, hw5⟩
  have HB5 : Hid (Below w.heap.size w w5) := by rw [hw5]; exact below_drewN HB4.out kd
  clear hw5 HSame HB4
  by_cases hbig : 1048576 < t.size
  · have hdb : decide ((1048576 : Int) < (t.size : Int)) = true := by simp; omega
    have h2 := HLong.out hbig
    subst h2
    clear HShort HLong
    go_wp2
    go_ret
    exact ⟨rfl, HB5.out⟩
  · have hdb : decide ((1048576 : Int) < (t.size : Int)) = false := by simp; omega
    rcases HShort.out (by omega) with ⟨h2, h3, h4, h5⟩ | ⟨h2, h3, h4, h5⟩
    · subst h2; subst h3; subst h4; subst h5
      clear HShort HLong
      go_wp2
      go_ret
      exact ⟨rfl, HB5.out⟩
    · subst h2; subst h3; subst h5
      have hdj : decide ((1 : Int) ≤ (j1 : Int)) = true := by simp; omega
      clear HShort HLong
      go_wp2
      go_ret
      exact ⟨ret_bool (by simp <;> omega), HB5.out⟩

namespace fastaLoose
open Go.ChangeShapes Go.WideShapes Go.ChangeAt Go.RowKit
open Go.ChangeMaps (open_string shut_string)
theorem own : ownKnob Try.prog.godebug = none := by kernel_rfl

set_option maxRecDepth 100000 in
theorem lifted (os : Os) (started : os.Started) (H : Type) (enc : TypeId × Value → H) :
    ReturnsInHanded {} Try.checked os 6 .any (Rows.fastaLooseSpec.pre6 enc Try.prog Try.f6 Rows.fastaLooseRow.domain false) (Rows.fastaLooseSpec.post enc Try.prog Try.f6 false true false false) := by
  refine returnsInHanded_of_change (C := Try.checked) own started (by kernel_rfl) Try.func6
    (ChangeSpec.witness6 (enc := enc) (C := Try.checked) false ⟨#[], #[.string ByteArray.empty, .int .i64 0], []⟩ 8 (by kernel_rfl) (by kernel_rfl) (by kernel_rfl) (by kernel_rfl)) ?_
  intro W base args ds gs before hval0 hW _ _
  have hval : ∀ (j : Nat) t v, Try.f6.params[j]? = some t → args[j]? = some v → Value.okWide Try.prog W .any base t v := hval0
  have hW' := hW
  obtain ⟨p, q, hA0, hV, rfl, hfz, hnd⟩ := hW
  have hA : DataW.TrodAll enc Try.prog W 0 (fun _ => true) true Try.f6.params.toList args.toList ds p := hA0
  rw [Try.params6] at hA hval
  obtain ⟨v0, vs0, d0, ds0, p0, q0, hargs, rfl, rfl, h0, r0⟩ := trodAll_cons hA
  obtain ⟨v1, vs1, d1, ds1, p1, q1, rfl, rfl, rfl, h1, r1⟩ := trodAll_cons r0
  obtain ⟨rfl, rfl, rfl⟩ := trodAll_nil r1
  obtain rfl : args = #[v0, v1] := by cases args; simp_all
  obtain ⟨rfl, rfl⟩ := trodVars_none hV
  obtain ⟨a0, rfl, rfl, rfl, w0⟩ := open_string Try.underlying9 (hval 0 9 v0 rfl rfl) h0
  obtain ⟨a1, rfl, rfl, rfl, w1⟩ := open_int Try.underlying3 (hval 1 3 v1 rfl rfl) h1
  clear hA0 hval0
  refine (loose_walk a0 a1 W w0 w1).mono fun e W' ⟨he, bel⟩ => ?_
  subst he
  exact ⟨_, rfl, _, _, _, [], _, [], hW', trodAll_mk1 (shut_bool Try.underlying4 _), (trodAll_cons_mk (shut_string Try.underlying9 w0) (trodAll_cons_mk (shut_int Try.underlying3 w1) trodAll_mk0)), rfl, bel.frame _, fun h => by cases h⟩
end fastaLoose

theorem fastaLoose_holds : Rows.FastaLooseSaid :=
  OpenClaim.holds_of_wide 6 Try.f6 rfl rfl rfl rfl rfl rfl rfl ⟨rfl, rfl, rfl, rfl, rfl⟩ rfl rfl rfl rfl rfl (by kernel_rfl) Try.func6 (by kernel_rfl)
    (of_decide_eq_true (by kernel_rfl)) (by unfold Func.isWrapper; first | (rw [if_pos (by decide +kernel)]; kernel_rfl) | (rw [if_neg (by decide +kernel)]; exact ⟨rfl, rfl⟩))
    (fun os started H enc _ => fastaLoose.lifted os started H enc)
end Go.Proofs.Ytcleejdlmamdhaa
