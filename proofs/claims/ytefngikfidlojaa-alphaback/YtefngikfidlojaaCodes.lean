/-
  The walks of alpha.Code, helixref01.Code and alpha.Encode: numbers of letters, and a text's numbers in a list of the call's own.
-/
import Derived.Test.YtefngikfidlojaaRight
import Derived.WalkSmall
import Derived.Deep.RegionWith
namespace Go.Proofs.Ytefngikfidlojaa
open Go.RowKit

theorem drew_trans {w w1 w2 : World} (h : ∃ n, w1 = w.drewN n) (k : ∃ n, w2 = w1.drewN n) : ∃ n, w2 = w.drewN n := by
  obtain ⟨m, rfl⟩ := k
  exact drew_more h m

theorem code_calls (s : ByteArray) (c : Int) (w : World) (hs : s.size ≤ maxLen) (h0 : 0 ≤ c) (h1 : c ≤ 255) :
    Calls Try.prog 12 #[.string s, .int .u8 c] w fun e w' => e = .returned (.int .i64 (codeB s.data.toList c)) ∧ ∃ n, w' = w.drewN n := by
  unfold codeB
  generalize hr : rightB s.data.toList = r
  cases r with
  | false =>
    have HR : Hid (rightB s.data.toList = false) := hr
    clear hr
    go_enter Try.func12, Try.ntmps12
    go_wp2_with (go_at_call 10; refine (right_calls s _ hs).mono ?_; rintro e w' ⟨rfl, hd⟩; rw [HR.out])
    go_ret
    exact ⟨rfl, by assumption⟩
  | true =>
    have HR : Hid (rightB s.data.toList = true) := hr
    clear hr
    go_enter Try.func12, Try.ntmps12
    go_wp2_with (first
      | (go_at_call 10; refine (right_calls s _ hs).mono ?_; rintro e w' ⟨rfl, hd⟩; rw [HR.out]; have HD : Hid (∃ n, w' = w.drewN n) := hd; clear hd)
      | (go_at_call 26; refine (number_calls s c _ h0 h1).mono ?_; rintro e w' ⟨rfl, rfl⟩))
    go_ret
    exact ⟨rfl, Hid.out (by assumption)⟩

theorem codeRef_calls (s : ByteArray) (c : Int) (w : World) (hs : s.size ≤ maxLen) (h0 : 0 ≤ c) (h1 : c ≤ 255) :
    Calls Try.prog 13 #[.string s, .int .u8 c] w fun e w' => e = .returned (.int .i64 (codeB s.data.toList c)) ∧ ∃ n, w' = w.drewN n := by
  have hcr := capRef_range c h0 h1
  have hcode := codeOf_ref s.data.toList c h0 h1
  have HC : Hid (rightB s.data.toList = true → (if capRef c = 0 then (-1 : Int) else Lib.indexByte s.data.toList (capRef c).toNat.toUInt8) = codeOf s.data.toList c) := hcode
  clear hcode
  unfold codeB
  generalize hr : rightB s.data.toList = r
  have HR : Hid (rightB s.data.toList = r) := hr
  clear hr
  by_cases hz : (capRef c == 0) = true
  · have HZ : Hid (capRef c = 0) := beq_iff_eq.1 hz
    cases r with
    | false =>
      go_enter Try.func13, Try.ntmps13
      go_wp2_with (first
        | (go_at_call 11; refine (rightRef_calls s _ hs).mono ?_; rintro e w' ⟨rfl, hd⟩; rw [HR.out]; have HD : Hid (∃ n, w' = w.drewN n) := hd; clear hd)
        | (go_at_call 22; refine (capitalRef_calls c _ h0 h1).mono ?_; rintro e w' ⟨rfl, rfl⟩))
      go_ret
      exact ⟨rfl, Hid.out (by assumption)⟩
    | true =>
      go_enter Try.func13, Try.ntmps13
      go_wp2_with (first
        | (go_at_call 11; refine (rightRef_calls s _ hs).mono ?_; rintro e w' ⟨rfl, hd⟩; rw [HR.out]; have HD : Hid (∃ n, w' = w.drewN n) := hd; clear hd)
        | (go_at_call 22; refine (capitalRef_calls c _ h0 h1).mono ?_; rintro e w' ⟨rfl, rfl⟩))
      go_ret
      refine ⟨ret_int ?_, Hid.out (by assumption)⟩
      have h := HC.out HR.out
      rw [if_pos HZ.out] at h
      simpa using h
  · have hz' : (capRef c == 0) = false := by simpa using hz
    have HZ : Hid (¬ capRef c = 0) := beq_eq_false_iff_ne.1 hz'
    clear hz
    cases r with
    | false =>
      go_enter Try.func13, Try.ntmps13
      go_wp2_with (first
        | (go_at_call 11; refine (rightRef_calls s _ hs).mono ?_; rintro e w' ⟨rfl, hd⟩; rw [HR.out]; have HD : Hid (∃ n, w' = w.drewN n) := hd; clear hd)
        | (go_at_call 22; refine (capitalRef_calls c _ h0 h1).mono ?_; rintro e w' ⟨rfl, rfl⟩))
      go_ret
      exact ⟨rfl, Hid.out (by assumption)⟩
    | true =>
      go_enter Try.func13, Try.ntmps13
      go_wp2_with (first
        | (go_at_call 11; refine (rightRef_calls s _ hs).mono ?_; rintro e w' ⟨rfl, hd⟩; rw [HR.out]; have HD : Hid (∃ n, w' = w.drewN n) := hd; clear hd)
        | (go_at_call 22; refine (capitalRef_calls c _ h0 h1).mono ?_; rintro e w' ⟨rfl, rfl⟩)
        | (go_at_call 25; refine (place_calls s _ _ hcr.1 hcr.2 hs).mono ?_; rintro e w' ⟨rfl, rfl⟩))
      go_ret
      refine ⟨ret_int ?_, Hid.out (by assumption)⟩
      have h := HC.out HR.out
      rw [if_neg HZ.out] at h
      simpa using h
end Go.Proofs.Ytefngikfidlojaa
