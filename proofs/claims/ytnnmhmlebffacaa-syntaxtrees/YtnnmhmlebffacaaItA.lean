/-
  What items begin with; names, ways; two expressions with a sign between.
-/
import Derived.Test.YtnnmhmlebffacaaFac
namespace Go.Proofs.Ytnnmhmlebffacaa
open Go.RowKit Go.Deep

theorem eqL {s : ByteArray} {l : List UInt8} : (s.toList == l) = true ↔ s.data.toList = l := by rw [ByteArray.toList_eq, beq_iff_eq]
theorem neL {s : ByteArray} {l : List UInt8} : (s.toList == l) = false ↔ s.data.toList ≠ l := by rw [ByteArray.toList_eq, beq_eq_false_iff_ne]
set_option maxRecDepth 20000 in
set_option maxHeartbeats 2000000 in
theorem itemKind_calls (s : ByteArray) (w : World) :
    Calls Try.prog 83 #[.string s] w fun e w' => e = .returned (.int .i64 (itemKindB s.data.toList)) ∧ w' = w := by
  unfold itemKindB
  cases h0 : (s.toList == [108, 101, 116]) with
  | true =>
    have HE : Hid (s.data.toList = [108, 101, 116]) := eqL.1 h0
    rw [show s.data.toList = [108, 101, 116] from HE.out]
    go_enter Try.func83, Try.ntmps83
    go_wp2
    go_ret
    exact ⟨rfl, rfl⟩
  | false =>
    rw [if_neg (neL.1 h0)]
    cases h1 : (s.toList == [97, 108, 112, 104, 97, 98, 101, 116]) with
    | true =>
      have HE : Hid (s.data.toList = [97, 108, 112, 104, 97, 98, 101, 116]) := eqL.1 h1
      rw [show s.data.toList = [97, 108, 112, 104, 97, 98, 101, 116] from HE.out]
      go_enter Try.func83, Try.ntmps83
      go_wp2
      go_ret
      exact ⟨rfl, rfl⟩
    | false =>
      rw [if_neg (neL.1 h1)]
      cases h2 : (s.toList == [109, 97, 116, 99, 104]) with
      | true =>
        have HE : Hid (s.data.toList = [109, 97, 116, 99, 104]) := eqL.1 h2
        rw [show s.data.toList = [109, 97, 116, 99, 104] from HE.out]
        go_enter Try.func83, Try.ntmps83
        go_wp2
        go_ret
        exact ⟨rfl, rfl⟩
      | false =>
        rw [if_neg (neL.1 h2)]
        cases h3 : (s.toList == [109, 105, 115, 109, 97, 116, 99, 104]) with
        | true =>
          have HE : Hid (s.data.toList = [109, 105, 115, 109, 97, 116, 99, 104]) := eqL.1 h3
          rw [show s.data.toList = [109, 105, 115, 109, 97, 116, 99, 104] from HE.out]
          go_enter Try.func83, Try.ntmps83
          go_wp2
          go_ret
          exact ⟨rfl, rfl⟩
        | false =>
          rw [if_neg (neL.1 h3)]
          cases h4 : (s.toList == [112, 97, 105, 114]) with
          | true =>
            have HE : Hid (s.data.toList = [112, 97, 105, 114]) := eqL.1 h4
            rw [show s.data.toList = [112, 97, 105, 114] from HE.out]
            go_enter Try.func83, Try.ntmps83
            go_wp2
            go_ret
            exact ⟨rfl, rfl⟩
          | false =>
            rw [if_neg (neL.1 h4)]
            cases h5 : (s.toList == [103, 97, 112]) with
            | true =>
              have HE : Hid (s.data.toList = [103, 97, 112]) := eqL.1 h5
              rw [show s.data.toList = [103, 97, 112] from HE.out]
              go_enter Try.func83, Try.ntmps83
              go_wp2
              go_ret
              exact ⟨rfl, rfl⟩
            | false =>
              rw [if_neg (neL.1 h5)]
              cases h6 : (s.toList == [109, 111, 100, 101]) with
              | true =>
                have HE : Hid (s.data.toList = [109, 111, 100, 101]) := eqL.1 h6
                rw [show s.data.toList = [109, 111, 100, 101] from HE.out]
                go_enter Try.func83, Try.ntmps83
                go_wp2
                go_ret
                exact ⟨rfl, rfl⟩
              | false =>
                rw [if_neg (neL.1 h6)]
                cases h7 : (s.toList == [98, 97, 110, 100]) with
                | true =>
                  have HE : Hid (s.data.toList = [98, 97, 110, 100]) := eqL.1 h7
                  rw [show s.data.toList = [98, 97, 110, 100] from HE.out]
                  go_enter Try.func83, Try.ntmps83
                  go_wp2
                  go_ret
                  exact ⟨rfl, rfl⟩
                | false =>
                  rw [if_neg (neL.1 h7)]
                  cases h8 : (s.toList == [99, 108, 105, 112]) with
                  | true =>
                    have HE : Hid (s.data.toList = [99, 108, 105, 112]) := eqL.1 h8
                    rw [show s.data.toList = [99, 108, 105, 112] from HE.out]
                    go_enter Try.func83, Try.ntmps83
                    go_wp2
                    go_ret
                    exact ⟨rfl, rfl⟩
                  | false =>
                    rw [if_neg (neL.1 h8)]
                    cases h9 : (s.toList == [108, 101, 97, 115, 116]) with
                    | true =>
                      have HE : Hid (s.data.toList = [108, 101, 97, 115, 116]) := eqL.1 h9
                      rw [show s.data.toList = [108, 101, 97, 115, 116] from HE.out]
                      go_enter Try.func83, Try.ntmps83
                      go_wp2
                      go_ret
                      exact ⟨rfl, rfl⟩
                    | false =>
                      rw [if_neg (neL.1 h9)]
                      go_enter Try.func83, Try.ntmps83
                      go_wp2
                      go_ret
                      exact ⟨rfl, rfl⟩
set_option maxRecDepth 20000 in
set_option maxHeartbeats 2000000 in
theorem isWay_calls (s : ByteArray) (w : World) :
    Calls Try.prog 52 #[.string s] w fun e w' => e = .returned (.bool (isWayB s.data.toList)) ∧ w' = w := by
  cases h0 : (s.toList == [103, 108, 111, 98, 97, 108]) with
  | true =>
    have HE : Hid (isWayB s.data.toList = true) := by show isWayB s.data.toList = true; rw [eqL.1 h0]; decide
    go_enter Try.func52, Try.ntmps52
    go_wp2
    go_ret
    exact ⟨ret_bool HE.out.symm, rfl⟩
  | false =>
    cases h1 : (s.toList == [102, 105, 116]) with
    | true =>
      have HE : Hid (isWayB s.data.toList = true) := by show isWayB s.data.toList = true; rw [eqL.1 h1]; decide
      go_enter Try.func52, Try.ntmps52
      go_wp2
      go_ret
      exact ⟨ret_bool HE.out.symm, rfl⟩
    | false =>
      cases h2 : (s.toList == [108, 111, 99, 97, 108]) with
      | true =>
        have HE : Hid (isWayB s.data.toList = true) := by show isWayB s.data.toList = true; rw [eqL.1 h2]; decide
        go_enter Try.func52, Try.ntmps52
        go_wp2
        go_ret
        exact ⟨ret_bool HE.out.symm, rfl⟩
      | false =>
        cases h3 : (s.toList == [101, 120, 116, 101, 110, 100]) with
        | true =>
          have HE : Hid (isWayB s.data.toList = true) := by show isWayB s.data.toList = true; rw [eqL.1 h3]; decide
          go_enter Try.func52, Try.ntmps52
          go_wp2
          go_ret
          exact ⟨ret_bool HE.out.symm, rfl⟩
        | false =>
          have HE : Hid (isWayB s.data.toList = false) := by
            show isWayB s.data.toList = false
            unfold isWayB
            simp only [Bool.or_eq_false_iff, decide_eq_false_iff_not]
            exact ⟨⟨⟨neL.1 h0, neL.1 h1⟩, neL.1 h2⟩, neL.1 h3⟩
          go_enter Try.func52, Try.ntmps52
          go_wp2
          go_ret
          exact ⟨ret_bool HE.out.symm, rfl⟩
set_option maxRecDepth 20000 in
set_option maxHeartbeats 2000000 in
theorem name_calls {b : Nat} {ta : Option Addr} {tn tc : Nat} {T : List Tk} {f : Int × Int} (w : World) {t : Tk} {r : List Tk} (h : PAt b ta tn tc T (t :: r) f w) :
    Calls Try.prog 63 #[.pointer (some ⟨b, 0, none⟩)] w (PPost b ta tn tc T f (nameG (t :: r)) VS w) := by
  have HP : Hid (PAt b ta tn tc T (t :: r) f w) := h
  have hfd := fld48_0
  have hfd2 := fld48_2
  have HH : Hid (∀ w, PAt b ta tn tc T (t :: r) f w → Calls Try.prog 38 #[.pointer (some ⟨b, 0, none⟩)] w fun e w' => e = .returned (.agg #[.int .i64 t.kind, .int .i64 t.num, .string (bs t.text), .int .i64 (t.pl : Int)]) ∧ Below w.heap.size w w') := fun w h => here_calls w h
  by_cases hk : t.kind = 3
  · have q : (t.kind != 3) = false := by rw [hk]; rfl
    have HN : Hid (∀ w, PAt b ta tn tc T (t :: r) f w → Calls Try.prog 85 #[.pointer (some ⟨b, 0, none⟩)] w fun e w' => e = .returned (.agg #[.int .i64 t.kind, .int .i64 t.num, .string (bs t.text), .int .i64 (t.pl : Int)]) ∧ Kp b w w' ∧ PAt b ta tn tc T r f w') := fun w h => nextP_calls w h (by rw [hk]; decide)
    have HE : Hid (nameG (t :: r) = pure' t.text r) := by show (if t.kind = 3 then pure' t.text r else wrong' (t :: r)) = _; rw [if_pos hk]
    clear hk h
    go_enter Try.func63, Try.ntmps63
    go_wp2_with fail
    refine (HH.out _ HP.out).mono ?_
    rintro e w1 ⟨rfl, hb1⟩
    have H1 : Hid (Below w.heap.size w w1 ∧ PAt b ta tn tc T (t :: r) f w1) := ⟨hb1, HP.out.below hb1⟩
    clear hb1
    go_wp2_with fail
    refine (HN.out _ H1.out.2).mono ?_
    rintro e w2 ⟨rfl, hk2, hp2⟩
    have H2 : Hid (Kp b w w2 ∧ PAt b ta tn tc T r f w2) := ⟨(Kp.of_below H1.out.1).trans hk2, hp2⟩
    clear hk2 hp2 H1 HN HH
    go_wp2
    go_ret
    rw [HE.out]
    exact ⟨H2.out.1, .inl ⟨_, _, rfl, rfl, rfl, by show PAt b ta tn tc T r (flt [] f) _; rw [flt_nil]; exact H2.out.2⟩⟩
  · have q : (t.kind != 3) = true := by simpa using hk
    have HW : Hid (∀ w, PAt b ta tn tc T (t :: r) f w → Calls Try.prog 84 #[.pointer (some ⟨b, 0, none⟩)] w fun e w' => e = .returned (.agg #[.int .i64 70, .int .i64 (t.pl : Int)]) ∧ Kp b w w' ∧ PAt b ta tn tc T (t :: r) (70, t.pl) w') := fun w h => wrong_calls w h
    have HE : Hid (nameG (t :: r) = wrong' (t :: r)) := by show (if t.kind = 3 then pure' t.text r else wrong' (t :: r)) = _; rw [if_neg hk]
    clear hk h
    go_enter Try.func63, Try.ntmps63
    go_wp2_with fail
    refine (HH.out _ HP.out).mono ?_
    rintro e w1 ⟨rfl, hb1⟩
    have H1 : Hid (Below w.heap.size w w1 ∧ PAt b ta tn tc T (t :: r) f w1) := ⟨hb1, HP.out.below hb1⟩
    clear hb1
    go_wp2_with fail
    refine (HW.out _ H1.out.2).mono ?_
    rintro e w2 ⟨rfl, hk2, hp2⟩
    have H2 : Hid (Kp b w w2 ∧ PAt b ta tn tc T (t :: r) (70, t.pl) w2) := ⟨(Kp.of_below H1.out.1).trans hk2, hp2⟩
    clear hk2 hp2 H1 HW HH
    go_wp2
    refine ⟨rfl, ?_⟩
    rw [HE.out]
    exact ⟨H2.out.1, .inr ⟨rfl, ⟨_, rfl⟩, H2.out.2⟩⟩
set_option maxRecDepth 20000 in
set_option maxHeartbeats 2000000 in
theorem way_calls {b : Nat} {ta : Option Addr} {tn tc : Nat} {T : List Tk} {f : Int × Int} (w : World) {t : Tk} {r : List Tk} (h : PAt b ta tn tc T (t :: r) f w) :
    Calls Try.prog 66 #[.pointer (some ⟨b, 0, none⟩)] w (PPost b ta tn tc T f (wayG (t :: r)) VS w) := by
  have HP : Hid (PAt b ta tn tc T (t :: r) f w) := h
  have hfd2 := fld48_2
  have HI : Hid (∀ w, Calls Try.prog 52 #[.string (bs t.text)] w fun e w' => e = .returned (.bool (isWayB t.text)) ∧ w' = w) := fun w => by
    have := isWay_calls (bs t.text) w
    rw [bs_list] at this; exact this
  have HH : Hid (∀ w, PAt b ta tn tc T (t :: r) f w → Calls Try.prog 38 #[.pointer (some ⟨b, 0, none⟩)] w fun e w' => e = .returned (.agg #[.int .i64 t.kind, .int .i64 t.num, .string (bs t.text), .int .i64 (t.pl : Int)]) ∧ Below w.heap.size w w') := fun w h => here_calls w h
  by_cases hc : t.kind = 4 ∧ isWayB t.text = true
  · have q : (t.kind != 4) = false := by rw [hc.1]; rfl
    rw [hc.2] at HI
    have HN : Hid (∀ w, PAt b ta tn tc T (t :: r) f w → Calls Try.prog 85 #[.pointer (some ⟨b, 0, none⟩)] w fun e w' => e = .returned (.agg #[.int .i64 t.kind, .int .i64 t.num, .string (bs t.text), .int .i64 (t.pl : Int)]) ∧ Kp b w w' ∧ PAt b ta tn tc T r f w') := fun w h => nextP_calls w h (by rw [hc.1]; decide)
    have HE : Hid (wayG (t :: r) = pure' t.text r) := by show (if t.kind = 4 ∧ isWayB t.text = true then pure' t.text r else wrong' (t :: r)) = _; rw [if_pos hc]
    clear hc h
    go_enter Try.func66, Try.ntmps66
    go_wp2_with fail
    refine (HH.out _ HP.out).mono ?_
    rintro e w1 ⟨rfl, hb1⟩
    have H1 : Hid (∀ o, Kp b w (w1.alloc o) ∧ PAt b ta tn tc T (t :: r) f (w1.alloc o)) := fun o => ⟨(Kp.of_below hb1).alloc o, (HP.out.below hb1).below ((Below.refl _ _).alloc (Nat.le_refl _) o)⟩
    clear hb1
    go_wp2_with (go_at_call 52; refine (HI.out _).mono ?_; rintro e w2 ⟨rfl, rfl⟩)
    refine (HN.out _ (H1.out _).2).mono ?_
    rintro e w2 ⟨rfl, hk2, hp2⟩
    have H2 : Hid (Kp b w w2 ∧ PAt b ta tn tc T r f w2) := ⟨(H1.out _).1.trans hk2, hp2⟩
    clear hk2 hp2 H1 HN HH
    go_wp2
    go_ret
    rw [HE.out]
    exact ⟨H2.out.1, .inl ⟨_, _, rfl, rfl, rfl, by show PAt b ta tn tc T r (flt [] f) _; rw [flt_nil]; exact H2.out.2⟩⟩
  · have HE : Hid (wayG (t :: r) = wrong' (t :: r)) := by show (if t.kind = 4 ∧ isWayB t.text = true then pure' t.text r else wrong' (t :: r)) = _; rw [if_neg hc]
    have HW : Hid (∀ w, PAt b ta tn tc T (t :: r) f w → Calls Try.prog 84 #[.pointer (some ⟨b, 0, none⟩)] w fun e w' => e = .returned (.agg #[.int .i64 70, .int .i64 (t.pl : Int)]) ∧ Kp b w w' ∧ PAt b ta tn tc T (t :: r) (70, t.pl) w') := fun w h => wrong_calls w h
    by_cases hk : t.kind = 4
    · have q : (t.kind != 4) = false := by rw [hk]; rfl
      have hf : isWayB t.text = false := by
        cases hx : isWayB t.text with
        | false => rfl
        | true => exact absurd ⟨hk, hx⟩ hc
      rw [hf] at HI
      clear hk hf
      clear hc h
      go_enter Try.func66, Try.ntmps66
      go_wp2_with fail
      refine (HH.out _ HP.out).mono ?_
      rintro e w1 ⟨rfl, hb1⟩
      have H1 : Hid (∀ o, Kp b w (w1.alloc o) ∧ PAt b ta tn tc T (t :: r) f (w1.alloc o)) := fun o => ⟨(Kp.of_below hb1).alloc o, (HP.out.below hb1).below ((Below.refl _ _).alloc (Nat.le_refl _) o)⟩
      clear hb1

      go_wp2_with (go_at_call 52; refine (HI.out _).mono ?_; rintro e w2 ⟨rfl, rfl⟩)
      refine (HW.out _ (H1.out _).2).mono ?_
      rintro e w2 ⟨rfl, hk2, hp2⟩
      have H2 : Hid (Kp b w w2 ∧ PAt b ta tn tc T (t :: r) (70, t.pl) w2) := ⟨(H1.out _).1.trans hk2, hp2⟩
      clear hk2 hp2 H1 HW HH
      go_wp2
      refine ⟨rfl, ?_⟩
      rw [HE.out]
      exact ⟨H2.out.1, .inr ⟨rfl, ⟨_, rfl⟩, H2.out.2⟩⟩
    · have q : (t.kind != 4) = true := by simpa using hk
      clear hk
      clear hc h
      go_enter Try.func66, Try.ntmps66
      go_wp2_with fail
      refine (HH.out _ HP.out).mono ?_
      rintro e w1 ⟨rfl, hb1⟩
      have H1 : Hid (∀ o, Kp b w (w1.alloc o) ∧ PAt b ta tn tc T (t :: r) f (w1.alloc o)) := fun o => ⟨(Kp.of_below hb1).alloc o, (HP.out.below hb1).below ((Below.refl _ _).alloc (Nat.le_refl _) o)⟩
      clear hb1

      go_wp2_with fail
      refine (HW.out _ (H1.out _).2).mono ?_
      rintro e w2 ⟨rfl, hk2, hp2⟩
      have H2 : Hid (Kp b w w2 ∧ PAt b ta tn tc T (t :: r) (70, t.pl) w2) := ⟨(H1.out _).1.trans hk2, hp2⟩
      clear hk2 hp2 H1 HW HH
      go_wp2
      refine ⟨rfl, ?_⟩
      rw [HE.out]
      exact ⟨H2.out.1, .inr ⟨rfl, ⟨_, rfl⟩, H2.out.2⟩⟩

end Go.Proofs.Ytnnmhmlebffacaa
