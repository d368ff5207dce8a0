/-
  The document's item. The document's item.
-/
import Derived.Test.YtnnmhmlebffacaaG34
namespace Go.Proofs.Ytnnmhmlebffacaa
open Go.RowKit Go.Deep

set_option maxRecDepth 20000 in
set_option maxHeartbeats 4000000 in
theorem iR_two {B b : Nat} {ta : Option Addr} {tn tc : Nat} {T : List Tk} {m : List Int} (w : World) {t : Tk} {r : List Tk} (h : RIs B b ta tn tc T (t :: r) false m w) (hT : ∀ t ∈ T, WdT t) (hBb : B ≤ b) (hk : t.kind = 4) (hK0 : itemKindB t.text ≠ 0) (hK : itemKindB t.text = 5 ∨ itemKindB t.text = 6 ∨ itemKindB t.text = 9) :
    Calls Try.prog 27 #[.pointer (some ⟨b, 0, none⟩)] w (IPost B b ta tn tc T m (itemG (exprN mx) (t :: r)) w) := by
  have hres : Try.f27.results = #[.cell 2 42] := by kernel_rfl
  have hok : TkOk t := by
    obtain ⟨m', h1, _⟩ := h
    exact h1.toks.fits t (h1.mem t (by simp))
  have hp0 : RIs B b ta tn tc T (t :: r) false m (w.alloc (.cells zeroQ 42)) := h.below ((Below.refl _ _).alloc (Nat.le_refl _) _)
  have HNx : Hid (Calls Try.prog 26 #[.pointer (some ⟨b, 0, none⟩)] (w.alloc (.cells zeroQ 42)) fun e w' => e = .returned (.agg #[.int .i64 t.kind, .int .i64 t.num, .string (bs t.text), .int .i64 (t.pl : Int)]) ∧ Below (w.alloc (.cells zeroQ 42)).heap.size (w.alloc (.cells zeroQ 42)) w') := hp0.nextC
  have H0 : Hid (RIs B b ta tn tc T (t :: r) false m w ∧ TkOk t) := ⟨h, hok⟩
  have hlt := h.lt
  have k4 : (t.kind == 4) = true := by rw [beq_iff_eq]; exact hk
  have hn1 : t.kind ≠ 1 := by rw [hk]; decide
  have HKd : Hid (∀ W, Calls Try.prog 43 #[.string (bs t.text)] W fun e w' => e = .returned (.int .i64 (itemKindB t.text)) ∧ Below W.heap.size W w') := fun W => kindR_calls (bs t.text) W
  have HX : Hid (itemG (exprN mx) (t :: r) = ((closeG [59] (bodyG (exprN mx) (itemKindB t.text) r)).map fun b => (⟨itemKindB t.text, b.1, b.2, t.pl⟩ : It)) ∧ InR (itemKindB t.text)) := by
    refine ⟨?_, kind_in t.text⟩
    show (if t.kind = 4 ∧ itemKindB t.text ≠ 0 then _ else _) = _
    rw [if_pos ⟨hk, hK0⟩]
  have hz0 : (itemKindB t.text == 0) = false := by rw [beq_eq_false_iff_ne]; exact hK0
  have HX2 : Hid (bodyG (exprN mx) (itemKindB t.text) r = (bothG (exprN mx) [44] r).map fun f => ([], f)) := by
    show _ = _
    rw [bodyG, if_neg (by omega), if_neg (by omega), if_neg (by omega), if_pos hK]
    exact bind_pm _ _
  have z1 : (itemKindB t.text == 1) = false := by rw [beq_eq_false_iff_ne]; omega
  have z7 : (itemKindB t.text == 7) = false := by rw [beq_eq_false_iff_ne]; omega
  have hq : ((itemKindB t.text == 5) = true) ∨ ((itemKindB t.text == 5) = false ∧ (itemKindB t.text == 6) = true) ∨ ((itemKindB t.text == 5) = false ∧ (itemKindB t.text == 6) = false ∧ (itemKindB t.text == 9) = true) := by
    rcases hK with h | h | h <;> rw [h] <;> decide
  have HTw : Hid (∀ W, RIs B b ta tn tc T r false m W → Calls Try.prog 48 #[.pointer (some ⟨b, 0, none⟩), .string ⟨#[44]⟩] W (APost B b ta tn tc T m (bothG (exprN mx) [44] r) W)) := fun W hW => by
    have := twoR_calls hT hBb ⟨#[44]⟩ (by decide) W hW
    rw [lift_false] at this
    exact this
  generalize bodyG (exprN mx) (itemKindB t.text) r = X2 at *
  generalize itemKindB t.text = K at *
  generalize bothG (exprN mx) [44] r = X1 at *
  clear hK hK0
  clear hk
  clear h hp0 hok
  rcases hq with z5 | ⟨z5, z6⟩ | ⟨z5, z6, z9⟩ <;> (
    go_enter Try.func27, Try.ntmps27
    go_wp2_with fail
    refine HNx.out.mono ?_
    rintro e w2 ⟨rfl, hb2⟩
    obtain ⟨hT3, htb3, hs3⟩ := IRd.start H0.out.1 hBb hb2
    have H3 : Hid (IRd B b ta tn tc T w (w2.heap.size + 1) (t :: r) false m 0 [] none 0 0 (t.pl : Int) ((w2.alloc (.cells #[.int .i64 t.kind, .int .i64 t.num, .string (bs t.text), .int .i64 (t.pl : Int)] 48)).alloc (.cells #[.int .i64 0, .string ⟨#[]⟩, .slice none 0 0, .int .i64 (t.pl : Int)] 42)) ∧ w.heap.size + 1 ≤ w2.heap.size) := ⟨hT3, hs3⟩
    have tb0 := blk (i := 0) htb3 rfl
    have tb2 := blk (i := 2) htb3 rfl
    clear hb2 HNx hT3 htb3
    go_wp2_with fail
    refine (HKd.out _).mono ?_
    rintro e w4 ⟨rfl, hb4⟩
    have hT4 := H3.out.1.next hb4
    have hT4k := hT4.set 0 (.int .i64 K) K [] none 0 0 rfl
    obtain ⟨x0, x1, x2, x3⟩ := hT4.sc
    have f4 := hT4.frz
    obtain ⟨q, mv, hbk, hk4, hT5⟩ := hT4k.step hn1
    have hb1 := blk (i := 1) hbk rfl
    have hf1 := blkf 1 hbk
    have y0 := hT5.sc.1
    have yk := hT4k.sc.1
    have H5 : Hid (IRd B b ta tn tc T w (w2.heap.size + 1) r false m K [] none 0 0 (t.pl : Int) ((w4.setCell ⟨w2.heap.size + 1, 0, none⟩ (.int .i64 K)).setCell ⟨b, 1, none⟩ (.int .i64 ((q : Int) + 1))) ∧ w.heap.size + 1 ≤ w2.heap.size) := ⟨hT5, hs3⟩
    clear hT4 hT4k hT5 hbk H3 hb4 HKd
    go_wp2_with fail
    refine (HTw.out _ H5.out.1.p).mono ?_
    rintro e w7 ⟨ka7, n7, c7, rfl, hk7, hp7, hs7⟩
    have hT7 := H5.out.1.go hk7 hp7
    have hT8 := hT7.set 2 (.slice ka7 n7 c7) K [] ka7 n7 c7 rfl
    obtain ⟨u0, u1, u2, u3⟩ := hT7.sc
    have f7 := hT7.frz
    have H8 : Hid (IRd B b ta tn tc T w (w2.heap.size + 1) X2.rest X2.val.isNone (m ++ X2.many) K [] ka7 n7 c7 (t.pl : Int) (w7.setCell ⟨w2.heap.size + 1, 2, none⟩ (.slice ka7 n7 c7)) ∧ ∀ p, X2.val = some p → p.1 = ([] : List UInt8) ∧ ([] : List UInt8).length ≤ 4000 ∧ n7 ≤ maxLen ∧ FoAt true (fun g => w.heap.size ≤ g ∧ g ≠ w.heap.size ∧ g ≠ w2.heap.size + 1) (w7.setCell ⟨w2.heap.size + 1, 2, none⟩ (.slice ka7 n7 c7)) p.2 ka7 n7) := by
      rw [HX2.out, rs_isNone]
      refine ⟨hT8, fun p hp => ?_⟩
      obtain ⟨a, h1, rfl⟩ := rs_some hp
      obtain ⟨g1, g2⟩ := hs7 a h1
      have hz := lt_block H5.out.1.val
      have hz2 := H5.out.2
      have g3 : FoAt true (fun g => w.heap.size ≤ g ∧ g ≠ w.heap.size ∧ g ≠ w2.heap.size + 1) w7 a ka7 n7 := g2.base fun g _ hg => by
        have h8 : _ ≤ g := hg
        exact ⟨by omega, by omega, by omega⟩
      exact ⟨rfl, by simp, g1, foAt_keep (fun g _ hg => heap_other rfl hg.2.2) g3⟩
    clear hk7 hp7 hs7 hT7 hT8 H5 HTw HX2
    obtain ⟨t2, r2, hr2⟩ := H8.out.1.p.here1
    have ht2 : WdT t2 := hT t2 (H8.out.1.p.mem t2 (by rw [hr2]; simp))
    have HRs : Hid (X2.rest = t2 :: r2) := hr2
    have HWt : Hid (∀ W, RIs B b ta tn tc T X2.rest X2.val.isNone (m ++ X2.many) W → Calls Try.prog 45 #[.pointer (some ⟨b, 0, none⟩), .string ⟨#[59]⟩] W fun e w' => e = .returned (.tuple #[]) ∧ Kr B b W w' ∧ RIs B b ta tn tc T (if isW X2.val.isNone ⟨#[59]⟩ t2 then r2 else t2 :: r2) (!isW X2.val.isNone ⟨#[59]⟩ t2) (m ++ X2.many) w') := fun W hW => by
      rw [HRs.out] at hW
      exact hW.wantsC _ (by decide) ht2
    clear hr2 ht2
    go_wp2_with fail
    refine (HWt.out _ H8.out.1.p).mono ?_
    rintro e w9 ⟨rfl, hk9, hp9⟩
    have hT9 := H8.out.1.go hk9 hp9
    have HE9 : Hid (∀ p, X2.val = some p → p.1 = ([] : List UInt8) ∧ ([] : List UInt8).length ≤ 4000 ∧ n7 ≤ maxLen ∧ FoAt true (fun g => w.heap.size ≤ g ∧ g ≠ w.heap.size ∧ g ≠ w2.heap.size + 1) w9 p.2 ka7 n7) := fun p hp => by
      obtain ⟨cs, hb⟩ := H8.out.1.p.own
      obtain ⟨g1, g0, g2, g3⟩ := H8.out.2 p hp
      exact ⟨g1, g0, g2, g3.kr hk9 hb⟩
    obtain ⟨a0, a1, a2, a3⟩ := hT9.sc
    obtain ⟨z0, z1, z2, z3, zf⟩ := hT9.zeros
    have HD : Hid _ := hT9.done rfl
    clear hk9 hp9 hT9 H8 HWt
    go_wp2
    refine bodyPost_ret (v := .agg #[.int .i64 K, .string (bs ([] : List UInt8)), .slice ka7 n7 c7, .int .i64 (t.pl : Int)]) ?_ rfl ?_
    · simp only [results, hres]
      go_simp
    · obtain ⟨d1, d2, d3⟩ := HD.out
      obtain ⟨y1, y2, y3, y4⟩ := close_plain ⟨#[59]⟩ X2 HRs.out
      have hCX : closeG (⟨#[59]⟩ : ByteArray).data.toList X2 = closeG [59] X2 := rfl
      rw [hCX] at y1 y2 y3 y4
      rw [HX.out.1]
      refine ⟨⟨K, ([] : List UInt8), .nil, t.pl⟩, ka7, n7, c7, rfl, d1, ?_, fun a ha => ?_⟩
      · rw [rs_isNone]
        show RIs B b ta tn tc T (closeG [59] X2).rest _ (m ++ (closeG [59] X2).many) _
        cases hq : (closeG [59] X2).val.isNone with
        | true =>
          rw [hq] at y2
          rw [← y2, ← y1] at d2
          exact d2.any _
        | false =>
          rw [y3 hq]
          rw [← y2, ← y1, hq] at d2
          exact d2
      · obtain ⟨p, hp, rfl⟩ := rs_some ha
        obtain ⟨g1, g0, g2, g3⟩ := HE9.out p (y4 p hp)
        refine ⟨rfl, g1, rfl, ⟨⟨?_, ?_, ?_⟩, g2, (foAt_keep (fun g _ hg => d3 g hg.2.1) g3).base fun g _ hg => hg.1⟩⟩
        · exact HX.out.2
        · show p.1.length ≤ maxLen
          rw [g1]
          have : (4000 : Nat) ≤ maxLen := by decide
          omega
        · have := H0.out.2.pl
          show InR (t.pl : Int)
          unfold InR
          omega)

set_option maxRecDepth 20000 in
set_option maxHeartbeats 4000000 in
theorem iR_band {B b : Nat} {ta : Option Addr} {tn tc : Nat} {T : List Tk} {m : List Int} (w : World) {t : Tk} {r : List Tk} (h : RIs B b ta tn tc T (t :: r) false m w) (hT : ∀ t ∈ T, WdT t) (hBb : B ≤ b) (hk : t.kind = 4) (hK0 : itemKindB t.text ≠ 0) (hK : itemKindB t.text = 8) :
    Calls Try.prog 27 #[.pointer (some ⟨b, 0, none⟩)] w (IPost B b ta tn tc T m (itemG (exprN mx) (t :: r)) w) := by
  have hres : Try.f27.results = #[.cell 2 42] := by kernel_rfl
  have hok : TkOk t := by
    obtain ⟨m', h1, _⟩ := h
    exact h1.toks.fits t (h1.mem t (by simp))
  have hp0 : RIs B b ta tn tc T (t :: r) false m (w.alloc (.cells zeroQ 42)) := h.below ((Below.refl _ _).alloc (Nat.le_refl _) _)
  have HNx : Hid (Calls Try.prog 26 #[.pointer (some ⟨b, 0, none⟩)] (w.alloc (.cells zeroQ 42)) fun e w' => e = .returned (.agg #[.int .i64 t.kind, .int .i64 t.num, .string (bs t.text), .int .i64 (t.pl : Int)]) ∧ Below (w.alloc (.cells zeroQ 42)).heap.size (w.alloc (.cells zeroQ 42)) w') := hp0.nextC
  have H0 : Hid (RIs B b ta tn tc T (t :: r) false m w ∧ TkOk t) := ⟨h, hok⟩
  have hlt := h.lt
  have k4 : (t.kind == 4) = true := by rw [beq_iff_eq]; exact hk
  have hn1 : t.kind ≠ 1 := by rw [hk]; decide
  have HKd : Hid (∀ W, Calls Try.prog 43 #[.string (bs t.text)] W fun e w' => e = .returned (.int .i64 (itemKindB t.text)) ∧ Below W.heap.size W w') := fun W => kindR_calls (bs t.text) W
  have HX : Hid (itemG (exprN mx) (t :: r) = ((closeG [59] (bodyG (exprN mx) (itemKindB t.text) r)).map fun b => (⟨itemKindB t.text, b.1, b.2, t.pl⟩ : It)) ∧ InR (itemKindB t.text)) := by
    refine ⟨?_, kind_in t.text⟩
    show (if t.kind = 4 ∧ itemKindB t.text ≠ 0 then _ else _) = _
    rw [if_pos ⟨hk, hK0⟩]
  have hz0 : (itemKindB t.text == 0) = false := by rw [beq_eq_false_iff_ne]; exact hK0
  have HX2 : Hid (bodyG (exprN mx) (itemKindB t.text) r = (bothG (exprN mx) [46, 46] r).map fun f => ([], f)) := by
    show _ = _
    rw [bodyG, if_neg (by omega), if_neg (by omega), if_pos hK]
    exact bind_pm _ _
  have z1 : (itemKindB t.text == 1) = false := by rw [beq_eq_false_iff_ne]; omega
  have z7 : (itemKindB t.text == 7) = false := by rw [beq_eq_false_iff_ne]; omega
  have z5 : (itemKindB t.text == 5) = false := by rw [hK]; rfl
  have z6 : (itemKindB t.text == 6) = false := by rw [hK]; rfl
  have z9 : (itemKindB t.text == 9) = false := by rw [hK]; rfl
  have z8 : (itemKindB t.text == 8) = true := by rw [hK]; rfl
  have HTw : Hid (∀ W, RIs B b ta tn tc T r false m W → Calls Try.prog 48 #[.pointer (some ⟨b, 0, none⟩), .string ⟨#[46, 46]⟩] W (APost B b ta tn tc T m (bothG (exprN mx) [46, 46] r) W)) := fun W hW => by
    have := twoR_calls hT hBb ⟨#[46, 46]⟩ (by decide) W hW
    rw [lift_false] at this
    exact this
  generalize bodyG (exprN mx) (itemKindB t.text) r = X2 at *
  generalize itemKindB t.text = K at *
  generalize bothG (exprN mx) [46, 46] r = X1 at *
  clear hK hK0
  clear hk
  clear h hp0 hok
  go_enter Try.func27, Try.ntmps27
  go_wp2_with fail
  refine HNx.out.mono ?_
  rintro e w2 ⟨rfl, hb2⟩
  obtain ⟨hT3, htb3, hs3⟩ := IRd.start H0.out.1 hBb hb2
  have H3 : Hid (IRd B b ta tn tc T w (w2.heap.size + 1) (t :: r) false m 0 [] none 0 0 (t.pl : Int) ((w2.alloc (.cells #[.int .i64 t.kind, .int .i64 t.num, .string (bs t.text), .int .i64 (t.pl : Int)] 48)).alloc (.cells #[.int .i64 0, .string ⟨#[]⟩, .slice none 0 0, .int .i64 (t.pl : Int)] 42)) ∧ w.heap.size + 1 ≤ w2.heap.size) := ⟨hT3, hs3⟩
  have tb0 := blk (i := 0) htb3 rfl
  have tb2 := blk (i := 2) htb3 rfl
  clear hb2 HNx hT3 htb3
  go_wp2_with fail
  refine (HKd.out _).mono ?_
  rintro e w4 ⟨rfl, hb4⟩
  have hT4 := H3.out.1.next hb4
  have hT4k := hT4.set 0 (.int .i64 K) K [] none 0 0 rfl
  obtain ⟨x0, x1, x2, x3⟩ := hT4.sc
  have f4 := hT4.frz
  obtain ⟨q, mv, hbk, hk4, hT5⟩ := hT4k.step hn1
  have hb1 := blk (i := 1) hbk rfl
  have hf1 := blkf 1 hbk
  have y0 := hT5.sc.1
  have yk := hT4k.sc.1
  have H5 : Hid (IRd B b ta tn tc T w (w2.heap.size + 1) r false m K [] none 0 0 (t.pl : Int) ((w4.setCell ⟨w2.heap.size + 1, 0, none⟩ (.int .i64 K)).setCell ⟨b, 1, none⟩ (.int .i64 ((q : Int) + 1))) ∧ w.heap.size + 1 ≤ w2.heap.size) := ⟨hT5, hs3⟩
  clear hT4 hT4k hT5 hbk H3 hb4 HKd
  go_wp2_with fail
  refine (HTw.out _ H5.out.1.p).mono ?_
  rintro e w7 ⟨ka7, n7, c7, rfl, hk7, hp7, hs7⟩
  have hT7 := H5.out.1.go hk7 hp7
  have hT8 := hT7.set 2 (.slice ka7 n7 c7) K [] ka7 n7 c7 rfl
  obtain ⟨u0, u1, u2, u3⟩ := hT7.sc
  have f7 := hT7.frz
  have H8 : Hid (IRd B b ta tn tc T w (w2.heap.size + 1) X2.rest X2.val.isNone (m ++ X2.many) K [] ka7 n7 c7 (t.pl : Int) (w7.setCell ⟨w2.heap.size + 1, 2, none⟩ (.slice ka7 n7 c7)) ∧ ∀ p, X2.val = some p → p.1 = ([] : List UInt8) ∧ ([] : List UInt8).length ≤ 4000 ∧ n7 ≤ maxLen ∧ FoAt true (fun g => w.heap.size ≤ g ∧ g ≠ w.heap.size ∧ g ≠ w2.heap.size + 1) (w7.setCell ⟨w2.heap.size + 1, 2, none⟩ (.slice ka7 n7 c7)) p.2 ka7 n7) := by
    rw [HX2.out, rs_isNone]
    refine ⟨hT8, fun p hp => ?_⟩
    obtain ⟨a, h1, rfl⟩ := rs_some hp
    obtain ⟨g1, g2⟩ := hs7 a h1
    have hz := lt_block H5.out.1.val
    have hz2 := H5.out.2
    have g3 : FoAt true (fun g => w.heap.size ≤ g ∧ g ≠ w.heap.size ∧ g ≠ w2.heap.size + 1) w7 a ka7 n7 := g2.base fun g _ hg => by
      have h8 : _ ≤ g := hg
      exact ⟨by omega, by omega, by omega⟩
    exact ⟨rfl, by simp, g1, foAt_keep (fun g _ hg => heap_other rfl hg.2.2) g3⟩
  clear hk7 hp7 hs7 hT7 hT8 H5 HTw HX2
  obtain ⟨t2, r2, hr2⟩ := H8.out.1.p.here1
  have ht2 : WdT t2 := hT t2 (H8.out.1.p.mem t2 (by rw [hr2]; simp))
  have HRs : Hid (X2.rest = t2 :: r2) := hr2
  have HWt : Hid (∀ W, RIs B b ta tn tc T X2.rest X2.val.isNone (m ++ X2.many) W → Calls Try.prog 45 #[.pointer (some ⟨b, 0, none⟩), .string ⟨#[59]⟩] W fun e w' => e = .returned (.tuple #[]) ∧ Kr B b W w' ∧ RIs B b ta tn tc T (if isW X2.val.isNone ⟨#[59]⟩ t2 then r2 else t2 :: r2) (!isW X2.val.isNone ⟨#[59]⟩ t2) (m ++ X2.many) w') := fun W hW => by
    rw [HRs.out] at hW
    exact hW.wantsC _ (by decide) ht2
  clear hr2 ht2
  go_wp2_with fail
  refine (HWt.out _ H8.out.1.p).mono ?_
  rintro e w9 ⟨rfl, hk9, hp9⟩
  have hT9 := H8.out.1.go hk9 hp9
  have HE9 : Hid (∀ p, X2.val = some p → p.1 = ([] : List UInt8) ∧ ([] : List UInt8).length ≤ 4000 ∧ n7 ≤ maxLen ∧ FoAt true (fun g => w.heap.size ≤ g ∧ g ≠ w.heap.size ∧ g ≠ w2.heap.size + 1) w9 p.2 ka7 n7) := fun p hp => by
    obtain ⟨cs, hb⟩ := H8.out.1.p.own
    obtain ⟨g1, g0, g2, g3⟩ := H8.out.2 p hp
    exact ⟨g1, g0, g2, g3.kr hk9 hb⟩
  obtain ⟨a0, a1, a2, a3⟩ := hT9.sc
  obtain ⟨z0, z1, z2, z3, zf⟩ := hT9.zeros
  have HD : Hid _ := hT9.done rfl
  clear hk9 hp9 hT9 H8 HWt
  go_wp2
  refine bodyPost_ret (v := .agg #[.int .i64 K, .string (bs ([] : List UInt8)), .slice ka7 n7 c7, .int .i64 (t.pl : Int)]) ?_ rfl ?_
  · simp only [results, hres]
    go_simp
  · obtain ⟨d1, d2, d3⟩ := HD.out
    obtain ⟨y1, y2, y3, y4⟩ := close_plain ⟨#[59]⟩ X2 HRs.out
    have hCX : closeG (⟨#[59]⟩ : ByteArray).data.toList X2 = closeG [59] X2 := rfl
    rw [hCX] at y1 y2 y3 y4
    rw [HX.out.1]
    refine ⟨⟨K, ([] : List UInt8), .nil, t.pl⟩, ka7, n7, c7, rfl, d1, ?_, fun a ha => ?_⟩
    · rw [rs_isNone]
      show RIs B b ta tn tc T (closeG [59] X2).rest _ (m ++ (closeG [59] X2).many) _
      cases hq : (closeG [59] X2).val.isNone with
      | true =>
        rw [hq] at y2
        rw [← y2, ← y1] at d2
        exact d2.any _
      | false =>
        rw [y3 hq]
        rw [← y2, ← y1, hq] at d2
        exact d2
    · obtain ⟨p, hp, rfl⟩ := rs_some ha
      obtain ⟨g1, g0, g2, g3⟩ := HE9.out p (y4 p hp)
      refine ⟨rfl, g1, rfl, ⟨⟨?_, ?_, ?_⟩, g2, (foAt_keep (fun g _ hg => d3 g hg.2.1) g3).base fun g _ hg => hg.1⟩⟩
      · exact HX.out.2
      · show p.1.length ≤ maxLen
        rw [g1]
        have : (4000 : Nat) ≤ maxLen := by decide
        omega
      · have := H0.out.2.pl
        show InR (t.pl : Int)
        unfold InR
        omega

end Go.Proofs.Ytnnmhmlebffacaa
namespace Go.Proofs.Ytnnmhmlebffacaa
open Go.RowKit Go.Deep

set_option maxRecDepth 20000 in
set_option maxHeartbeats 4000000 in
theorem iR_one {B b : Nat} {ta : Option Addr} {tn tc : Nat} {T : List Tk} {m : List Int} (w : World) {t : Tk} {r : List Tk} (h : RIs B b ta tn tc T (t :: r) false m w) (hT : ∀ t ∈ T, WdT t) (hBb : B ≤ b) (hk : t.kind = 4) (hK0 : itemKindB t.text ≠ 0) (hK : itemKindB t.text ≠ 1 ∧ itemKindB t.text ≠ 7 ∧ itemKindB t.text ≠ 8 ∧ ¬ (itemKindB t.text = 5 ∨ itemKindB t.text = 6 ∨ itemKindB t.text = 9)) :
    Calls Try.prog 27 #[.pointer (some ⟨b, 0, none⟩)] w (IPost B b ta tn tc T m (itemG (exprN mx) (t :: r)) w) := by
  have hres : Try.f27.results = #[.cell 2 42] := by kernel_rfl
  have hok : TkOk t := by
    obtain ⟨m', h1, _⟩ := h
    exact h1.toks.fits t (h1.mem t (by simp))
  have hp0 : RIs B b ta tn tc T (t :: r) false m (w.alloc (.cells zeroQ 42)) := h.below ((Below.refl _ _).alloc (Nat.le_refl _) _)
  have HNx : Hid (Calls Try.prog 26 #[.pointer (some ⟨b, 0, none⟩)] (w.alloc (.cells zeroQ 42)) fun e w' => e = .returned (.agg #[.int .i64 t.kind, .int .i64 t.num, .string (bs t.text), .int .i64 (t.pl : Int)]) ∧ Below (w.alloc (.cells zeroQ 42)).heap.size (w.alloc (.cells zeroQ 42)) w') := hp0.nextC
  have H0 : Hid (RIs B b ta tn tc T (t :: r) false m w ∧ TkOk t) := ⟨h, hok⟩
  have hlt := h.lt
  have k4 : (t.kind == 4) = true := by rw [beq_iff_eq]; exact hk
  have hn1 : t.kind ≠ 1 := by rw [hk]; decide
  have HKd : Hid (∀ W, Calls Try.prog 43 #[.string (bs t.text)] W fun e w' => e = .returned (.int .i64 (itemKindB t.text)) ∧ Below W.heap.size W w') := fun W => kindR_calls (bs t.text) W
  have HX : Hid (itemG (exprN mx) (t :: r) = ((closeG [59] (bodyG (exprN mx) (itemKindB t.text) r)).map fun b => (⟨itemKindB t.text, b.1, b.2, t.pl⟩ : It)) ∧ InR (itemKindB t.text)) := by
    refine ⟨?_, kind_in t.text⟩
    show (if t.kind = 4 ∧ itemKindB t.text ≠ 0 then _ else _) = _
    rw [if_pos ⟨hk, hK0⟩]
  have hz0 : (itemKindB t.text == 0) = false := by rw [beq_eq_false_iff_ne]; exact hK0
  have HX2 : Hid (bodyG (exprN mx) (itemKindB t.text) r = (exprN mx r).map fun e => (([] : List UInt8), ofL [e])) := by
    show _ = _
    rw [bodyG, if_neg (by omega), if_neg (by omega), if_neg (by omega), if_neg (by omega), bind_pm]
    show ((exprN mx r).bind fun a l1 => pure' (ofL [a]) l1).map _ = _
    rw [bind_pm]
    unfold Rs.map
    simp only [Option.map_map]
    rfl
  have z1 : (itemKindB t.text == 1) = false := by rw [beq_eq_false_iff_ne]; omega
  have z7 : (itemKindB t.text == 7) = false := by rw [beq_eq_false_iff_ne]; omega
  have z5 : (itemKindB t.text == 5) = false := by rw [beq_eq_false_iff_ne]; omega
  have z6 : (itemKindB t.text == 6) = false := by rw [beq_eq_false_iff_ne]; omega
  have z9 : (itemKindB t.text == 9) = false := by rw [beq_eq_false_iff_ne]; omega
  have z8 : (itemKindB t.text == 8) = false := by rw [beq_eq_false_iff_ne]; omega
  have HEx : Hid (∀ W, RIs B b ta tn tc T r false m W → Calls Try.prog 46 #[.pointer (some ⟨b, 0, none⟩)] W (RPost B b ta tn tc T m (exprN mx r) W)) := fun W hW => by
    have := exprRN_calls hT hBb r false m W hW
    rw [lift_false] at this
    exact this
  generalize bodyG (exprN mx) (itemKindB t.text) r = X2 at *
  generalize itemKindB t.text = K at *
  generalize exprN mx r = X1 at *
  clear hK hK0
  clear hk
  clear h hp0 hok
  go_enter Try.func27, Try.ntmps27
  go_wp2_with fail
  refine HNx.out.mono ?_
  rintro e w2 ⟨rfl, hb2⟩
  obtain ⟨hT3, htb3, hs3⟩ := IRd.start H0.out.1 hBb hb2
  have H3 : Hid (IRd B b ta tn tc T w (w2.heap.size + 1) (t :: r) false m 0 [] none 0 0 (t.pl : Int) ((w2.alloc (.cells #[.int .i64 t.kind, .int .i64 t.num, .string (bs t.text), .int .i64 (t.pl : Int)] 48)).alloc (.cells #[.int .i64 0, .string ⟨#[]⟩, .slice none 0 0, .int .i64 (t.pl : Int)] 42)) ∧ w.heap.size + 1 ≤ w2.heap.size) := ⟨hT3, hs3⟩
  have tb0 := blk (i := 0) htb3 rfl
  have tb2 := blk (i := 2) htb3 rfl
  clear hb2 HNx hT3 htb3
  go_wp2_with fail
  refine (HKd.out _).mono ?_
  rintro e w4 ⟨rfl, hb4⟩
  have hT4 := H3.out.1.next hb4
  have hT4k := hT4.set 0 (.int .i64 K) K [] none 0 0 rfl
  obtain ⟨x0, x1, x2, x3⟩ := hT4.sc
  have f4 := hT4.frz
  obtain ⟨q, mv, hbk, hk4, hT5⟩ := hT4k.step hn1
  have hb1 := blk (i := 1) hbk rfl
  have hf1 := blkf 1 hbk
  have y0 := hT5.sc.1
  have yk := hT4k.sc.1
  have H5 : Hid (IRd B b ta tn tc T w (w2.heap.size + 1) r false m K [] none 0 0 (t.pl : Int) ((w4.setCell ⟨w2.heap.size + 1, 0, none⟩ (.int .i64 K)).setCell ⟨b, 1, none⟩ (.int .i64 ((q : Int) + 1))) ∧ w.heap.size + 1 ≤ w2.heap.size) := ⟨hT5, hs3⟩
  clear hT4 hT4k hT5 hbk H3 hb4 HKd
  go_wp2_with fail
  refine (HEx.out _ H5.out.1.p).mono ?_
  rintro e w7 ⟨h2, k2, n2, c2, rfl, hk7, hp7, hE7⟩
  have hT7 := H5.out.1.go hk7 hp7
  have hT8 := hT7.next (below_two w7 (.cells #[.int .i64 h2.kind, .int .i64 h2.num, .string (bs h2.text), .slice k2 n2 c2, .int .i64 h2.pl] 35) (.cells #[.int .i64 h2.kind, .int .i64 h2.num, .string (bs h2.text), .slice k2 n2 c2, .int .i64 h2.pl] 35))
  have hT9 := hT8.set 2 (.slice (some ⟨w7.heap.size + 1, 0, none⟩) 1 1) K ([] : List UInt8) (some ⟨w7.heap.size + 1, 0, none⟩) 1 1 rfl
  obtain ⟨u0, u1, u2, u3⟩ := hT8.sc
  have f7 := hT8.frz
  have HF7 : ∀ a, X1.val = some a → FoAt true (fun g => w.heap.size ≤ g ∧ g ≠ w.heap.size ∧ g ≠ w2.heap.size + 1) (((w7.alloc (.cells #[.int .i64 h2.kind, .int .i64 h2.num, .string (bs h2.text), .slice k2 n2 c2, .int .i64 h2.pl] 35)).alloc (.cells #[.int .i64 h2.kind, .int .i64 h2.num, .string (bs h2.text), .slice k2 n2 c2, .int .i64 h2.pl] 35)).setCell ⟨w2.heap.size + 1, 2, none⟩ (.slice (some ⟨w7.heap.size + 1, 0, none⟩) 1 1)) (ofL [a]) (some ⟨w7.heap.size + 1, 0, none⟩) 1 := fun a ha => by
    obtain ⟨g1, g2⟩ := hE7 a ha
    subst g1
    have hz := lt_block H5.out.1.val
    have hz7 := hk7.size
    have hz3 := H5.out.2
    have g3 : ExAt true (fun g => w.heap.size ≤ g ∧ g ≠ w.heap.size ∧ g ≠ w2.heap.size + 1) (w7.alloc (.cells #[.int .i64 a.1.kind, .int .i64 a.1.num, .string (bs a.1.text), .slice k2 n2 c2, .int .i64 a.1.pl] 35)) a k2 n2 := (g2.base fun g _ hg => by
      have h8 : _ ≤ g := hg
      exact ⟨by omega, by omega, by omega⟩).below ((Below.refl _ _).alloc (Nat.le_refl _) _)
    have hN := one_new (o := true) (S := (fun g => w.heap.size ≤ g ∧ g ≠ w.heap.size ∧ g ≠ w2.heap.size + 1)) (kc := c2) (by simp; omega) g3
    rw [show (w7.alloc (.cells #[.int .i64 a.1.kind, .int .i64 a.1.num, .string (bs a.1.text), .slice k2 n2 c2, .int .i64 a.1.pl] 35)).heap.size = w7.heap.size + 1 by simp] at hN
    exact foAt_keep (fun g _ hg => heap_other rfl hg.2.2) hN
  have H8 : Hid (IRd B b ta tn tc T w (w2.heap.size + 1) X2.rest X2.val.isNone (m ++ X2.many) K ([] : List UInt8) (some ⟨w7.heap.size + 1, 0, none⟩) 1 1 (t.pl : Int) (((w7.alloc (.cells #[.int .i64 h2.kind, .int .i64 h2.num, .string (bs h2.text), .slice k2 n2 c2, .int .i64 h2.pl] 35)).alloc (.cells #[.int .i64 h2.kind, .int .i64 h2.num, .string (bs h2.text), .slice k2 n2 c2, .int .i64 h2.pl] 35)).setCell ⟨w2.heap.size + 1, 2, none⟩ (.slice (some ⟨w7.heap.size + 1, 0, none⟩) 1 1)) ∧ ∀ p, X2.val = some p → p.1 = ([] : List UInt8) ∧ ([] : List UInt8).length ≤ 4000 ∧ 1 ≤ maxLen ∧ FoAt true (fun g => w.heap.size ≤ g ∧ g ≠ w.heap.size ∧ g ≠ w2.heap.size + 1) (((w7.alloc (.cells #[.int .i64 h2.kind, .int .i64 h2.num, .string (bs h2.text), .slice k2 n2 c2, .int .i64 h2.pl] 35)).alloc (.cells #[.int .i64 h2.kind, .int .i64 h2.num, .string (bs h2.text), .slice k2 n2 c2, .int .i64 h2.pl] 35)).setCell ⟨w2.heap.size + 1, 2, none⟩ (.slice (some ⟨w7.heap.size + 1, 0, none⟩) 1 1)) p.2 (some ⟨w7.heap.size + 1, 0, none⟩) 1) := by
    rw [HX2.out, rs_isNone]
    refine ⟨hT9, fun p hp => ?_⟩
    obtain ⟨a, h1, rfl⟩ := rs_some hp
    exact ⟨rfl, by simp, by decide, HF7 a h1⟩
  clear hk7 hp7 hE7 hT7 hT8 hT9 HF7 H5 HEx HX2
  obtain ⟨t2, r2, hr2⟩ := H8.out.1.p.here1
  have ht2 : WdT t2 := hT t2 (H8.out.1.p.mem t2 (by rw [hr2]; simp))
  have HRs : Hid (X2.rest = t2 :: r2) := hr2
  have HWt : Hid (∀ W, RIs B b ta tn tc T X2.rest X2.val.isNone (m ++ X2.many) W → Calls Try.prog 45 #[.pointer (some ⟨b, 0, none⟩), .string ⟨#[59]⟩] W fun e w' => e = .returned (.tuple #[]) ∧ Kr B b W w' ∧ RIs B b ta tn tc T (if isW X2.val.isNone ⟨#[59]⟩ t2 then r2 else t2 :: r2) (!isW X2.val.isNone ⟨#[59]⟩ t2) (m ++ X2.many) w') := fun W hW => by
    rw [HRs.out] at hW
    exact hW.wantsC _ (by decide) ht2
  clear hr2 ht2
  go_wp2_with fail
  refine (HWt.out _ H8.out.1.p).mono ?_
  rintro e w9 ⟨rfl, hk9, hp9⟩
  have hT9 := H8.out.1.go hk9 hp9
  have HE9 : Hid (∀ p, X2.val = some p → p.1 = ([] : List UInt8) ∧ ([] : List UInt8).length ≤ 4000 ∧ 1 ≤ maxLen ∧ FoAt true (fun g => w.heap.size ≤ g ∧ g ≠ w.heap.size ∧ g ≠ w2.heap.size + 1) w9 p.2 (some ⟨w7.heap.size + 1, 0, none⟩) 1) := fun p hp => by
    obtain ⟨cs, hb⟩ := H8.out.1.p.own
    obtain ⟨g1, g0, g2, g3⟩ := H8.out.2 p hp
    exact ⟨g1, g0, g2, g3.kr hk9 hb⟩
  obtain ⟨a0, a1, a2, a3⟩ := hT9.sc
  obtain ⟨z0, z1, z2, z3, zf⟩ := hT9.zeros
  have HD : Hid _ := hT9.done rfl
  clear hk9 hp9 hT9 H8 HWt
  go_wp2
  refine bodyPost_ret (v := .agg #[.int .i64 K, .string (bs ([] : List UInt8)), .slice (some ⟨w7.heap.size + 1, 0, none⟩) 1 1, .int .i64 (t.pl : Int)]) ?_ rfl ?_
  · simp only [results, hres]
    go_simp
  · obtain ⟨d1, d2, d3⟩ := HD.out
    obtain ⟨y1, y2, y3, y4⟩ := close_plain ⟨#[59]⟩ X2 HRs.out
    have hCX : closeG (⟨#[59]⟩ : ByteArray).data.toList X2 = closeG [59] X2 := rfl
    rw [hCX] at y1 y2 y3 y4
    rw [HX.out.1]
    refine ⟨⟨K, ([] : List UInt8), .nil, t.pl⟩, (some ⟨w7.heap.size + 1, 0, none⟩), 1, 1, rfl, d1, ?_, fun a ha => ?_⟩
    · rw [rs_isNone]
      show RIs B b ta tn tc T (closeG [59] X2).rest _ (m ++ (closeG [59] X2).many) _
      cases hq : (closeG [59] X2).val.isNone with
      | true =>
        rw [hq] at y2
        rw [← y2, ← y1] at d2
        exact d2.any _
      | false =>
        rw [y3 hq]
        rw [← y2, ← y1, hq] at d2
        exact d2
    · obtain ⟨p, hp, rfl⟩ := rs_some ha
      obtain ⟨g1, g0, g2, g3⟩ := HE9.out p (y4 p hp)
      refine ⟨rfl, g1, rfl, ⟨⟨?_, ?_, ?_⟩, g2, (foAt_keep (fun g _ hg => d3 g hg.2.1) g3).base fun g _ hg => hg.1⟩⟩
      · exact HX.out.2
      · show p.1.length ≤ maxLen
        rw [g1]
        have : (4000 : Nat) ≤ maxLen := by decide
        omega
      · have := H0.out.2.pl
        show InR (t.pl : Int)
        unfold InR
        omega

end Go.Proofs.Ytnnmhmlebffacaa
