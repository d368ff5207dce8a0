/-
  The document's factor and expr, of so many tokens. The document's name, way.
-/
import Derived.Test.YtnnmhmlebffacaaG31
namespace Go.Proofs.Ytnnmhmlebffacaa
open Go.RowKit Go.Deep

theorem isT_no {k : Int} {s : List UInt8} {t : Tk} (h : ¬ (t.kind = k ∧ t.text = s)) : isT k s t = false := by
  unfold isT
  cases h1 : decide (t.kind = k) with
  | false => rfl
  | true =>
    cases h2 : decide (t.text = s) with
    | false => rfl
    | true => exact absurd ⟨of_decide_eq_true h1, of_decide_eq_true h2⟩ h
theorem exprR_of {B b : Nat} {ta : Option Addr} {tn tc : Nat} {T : List Tk} (hT : ∀ t ∈ T, WdT t) (hBb : B ≤ b) (n : Nat)
    (HF : ∀ l bad m w, RIs B b ta tn tc T l bad m w → l.length ≤ n → Calls Try.prog 90 #[.pointer (some ⟨b, 0, none⟩)] w (RPost B b ta tn tc T m (lift bad (facN n) l) w)) (l : List Tk) (bad : Bool) (m : List Int) (w : World) (h : RIs B b ta tn tc T l bad m w) (hl : l.length ≤ n) :
    Calls Try.prog 46 #[.pointer (some ⟨b, 0, none⟩)] w (RPost B b ta tn tc T m (lift bad (exprG (facN n)) l) w) :=
  exprR_calls hT hBb n (fun l bad m w h1 h2 => termR_calls hT hBb n HF l bad m w h1 h2) l bad m w h hl
theorem factorR_calls {B b : Nat} {ta : Option Addr} {tn tc : Nat} {T : List Tk} (hT : ∀ t ∈ T, WdT t) (hBb : B ≤ b) : ∀ (n : Nat) (l : List Tk) (bad : Bool) (m : List Int) (w : World), RIs B b ta tn tc T l bad m w → l.length ≤ n →
    Calls Try.prog 90 #[.pointer (some ⟨b, 0, none⟩)] w (RPost B b ta tn tc T m (lift bad (facN n) l) w)
  | 0, l, bad, m, w, h, hl => by
    obtain ⟨t, r, rfl⟩ := h.here1
    simp at hl
  | n + 1, l, bad, m, w, h, hl => by
    have IH := factorR_calls hT hBb n (ta := ta) (tn := tn) (tc := tc) (T := T)
    have IE : ∀ l m w, RIs B b ta tn tc T l false m w → l.length ≤ n → Calls Try.prog 46 #[.pointer (some ⟨b, 0, none⟩)] w (RPost B b ta tn tc T m (exprG (facN n) l) w) := fun l m w h1 h2 => exprR_of hT hBb n IH l false m w h1 h2
    cases bad with
    | true => exact fR_bad (facN (n + 1)) w h hBb
    | false =>
      rw [lift_false]
      obtain ⟨t, r, rfl⟩ := h.here1
      have hr : r.length ≤ n := by simp at hl; omega
      have HK : ∀ l m w, RIs B b ta tn tc T l false m w → l.length ≤ n → Calls Try.prog 95 #[.pointer (some ⟨b, 0, none⟩)] w (KPost B b ta tn tc T m (kidsG (exprG (facN n)) l) w) := fun l m w h1 h2 =>
        kidsR_calls hT hBb n (exprG (facN n)) (expr_suf (fac_suf n)) (fun l bad m w h1 h2 => exprR_of hT hBb n IH l bad m w h1 h2) l false m w h1 h2
      by_cases k2 : t.kind = 2
      · exact fR_2 n w h hBb k2
      by_cases k3 : t.kind = 3
      · exact fR_3 n w h hBb k3
      by_cases k5 : t.kind = 5
      · exact fR_5 n w h hBb k5
      by_cases a1 : t.kind = 6 ∧ t.text = [45]
      · exact fR_neg n w h hBb hr (fun l m w h1 h2 => IH l false m w h1 h2) a1.1 a1.2
      by_cases a2 : t.kind = 6 ∧ t.text = [40]
      · exact fR_par n w h hBb hT hr IE a2.1 a2.2
      by_cases a3 : t.kind = 4 ∧ t.text = wMin
      · exact fR_min n w h hBb hr HK a3.1 a3.2
      by_cases a4 : t.kind = 4 ∧ t.text = wMax
      · exact fR_max n w h hBb hr HK a4.1 a4.2
      have hX : facN (n + 1) (t :: r) = wrong' (t :: r) := by
        rw [facN, if_neg k2, if_neg k3, if_neg k5, isT_no a1, isT_no a2, isT_no a3, isT_no a4]; rfl
      refine fR_no n w h hBb ?_ (by rw [beq_eq_false_iff_ne]; exact k2) (by rw [beq_eq_false_iff_ne]; exact k3) (by rw [beq_eq_false_iff_ne]; exact k5) hX
      by_cases k4 : t.kind = 4
      · refine .inr (.inl ⟨by rw [beq_iff_eq]; exact k4, by rw [beq_eq_false_iff_ne]; omega, ?_, ?_⟩)
        · rw [txt_is]; exact decide_eq_false fun e => a3 ⟨k4, e⟩
        · rw [txt_is]; exact decide_eq_false fun e => a4 ⟨k4, e⟩
      by_cases k6 : t.kind = 6
      · refine .inr (.inr ⟨by rw [beq_eq_false_iff_ne]; exact k4, by rw [beq_iff_eq]; exact k6, ?_, ?_⟩)
        · rw [txt_is]; exact decide_eq_false fun e => a1 ⟨k6, e⟩
        · rw [txt_is]; exact decide_eq_false fun e => a2 ⟨k6, e⟩
      · exact .inl ⟨by rw [beq_eq_false_iff_ne]; exact k4, by rw [beq_eq_false_iff_ne]; exact k6⟩
/-- The document's expr, whatever stands behind. -/
theorem exprRN_calls {B b : Nat} {ta : Option Addr} {tn tc : Nat} {T : List Tk} (hT : ∀ t ∈ T, WdT t) (hBb : B ≤ b) (l : List Tk) (bad : Bool) (m : List Int) (w : World) (h : RIs B b ta tn tc T l bad m w) :
    Calls Try.prog 46 #[.pointer (some ⟨b, 0, none⟩)] w (RPost B b ta tn tc T m (lift bad (exprN mx) l) w) :=
  exprR_of hT hBb mx (factorR_calls hT hBb mx) l bad m w h h.len
end Go.Proofs.Ytnnmhmlebffacaa
namespace Go.Proofs.Ytnnmhmlebffacaa
open Go.RowKit Go.Deep

/-- What a rule of texts leaves. -/
def SPost (B b : Nat) (ta : Option Addr) (tn tc : Nat) (T : List Tk) (m : List Int) (X : Rs (List UInt8)) (w : World) (e : Ending) (w' : World) : Prop :=
  ∃ s : List UInt8, e = .returned (.string (bs s)) ∧ Kr B b w w' ∧ RIs B b ta tn tc T X.rest X.val.isNone (m ++ X.many) w' ∧ (∀ a, X.val = some a → a = s) ∧ s.length ≤ 4000
theorem RIs.stepC {B b : Nat} {ta : Option Addr} {tn tc : Nat} {T : List Tk} {m : List Int} {t : Tk} {r : List Tk} {W : World} (h : RIs B b ta tn tc T (t :: r) false m W) (ht : t.kind ≠ 1) : ∃ k mv, W.heap[b]? = some (.cells #[.slice ta tn tc, .int .i64 ((k : Nat) : Int), .bool false, mv] 58 (0, 0)) ∧ k ≤ 4001 ∧ RIs B b ta tn tc T r false m (W.setCell ⟨b, 1, none⟩ (.int .i64 ((k : Int) + 1))) ∧ Kr B b W (W.setCell ⟨b, 1, none⟩ (.int .i64 ((k : Int) + 1))) := by
  obtain ⟨m', h1, h2⟩ := h
  obtain ⟨k, mv, tb, tq, hk, hkn, hn, _, _, _, hb, _⟩ := h1.cells
  obtain ⟨q1, q2⟩ := h1.step ht hk hb
  exact ⟨k, mv, hb, by omega, ⟨m', q1, h2⟩, q2⟩
theorem RIs.wrongC {B b : Nat} {ta : Option Addr} {tn tc : Nat} {T l : List Tk} {bad : Bool} {m : List Int} {W : World} (h : RIs B b ta tn tc T l bad m W) : ∃ k mv, W.heap[b]? = some (.cells #[.slice ta tn tc, .int .i64 ((k : Nat) : Int), .bool bad, mv] 58 (0, 0)) ∧ RIs B b ta tn tc T l true m (W.setCell ⟨b, 2, none⟩ (.bool true)) ∧ Kr B b W (W.setCell ⟨b, 2, none⟩ (.bool true)) := by
  obtain ⟨m', h1, _⟩ := h
  obtain ⟨k, mv, mn, _, _, hb, _⟩ := h1.block
  obtain ⟨q1, q2⟩ := h1.bad'
  exact ⟨k, mv, hb, ⟨m', q1, fun e => by cases e⟩, q2⟩

set_option maxRecDepth 20000 in
set_option maxHeartbeats 4000000 in
theorem nameR_calls {B b : Nat} {ta : Option Addr} {tn tc : Nat} {T l : List Tk} {bad : Bool} {m : List Int} (w : World) (h : RIs B b ta tn tc T l bad m w) :
    Calls Try.prog 44 #[.pointer (some ⟨b, 0, none⟩)] w (SPost B b ta tn tc T m (lift bad nameG l) w) := by
  obtain ⟨t, r, rfl⟩ := h.here1
  have hok : TkOk t := by
    obtain ⟨m', h1, _⟩ := h
    exact h1.toks.fits t (h1.mem t (by simp))
  have h : RIs B b ta tn tc T (t :: r) bad m w := h
  have HNx : Hid (Calls Try.prog 26 #[.pointer (some ⟨b, 0, none⟩)] w fun e w' => e = .returned (.agg #[.int .i64 t.kind, .int .i64 t.num, .string (bs t.text), .int .i64 (t.pl : Int)]) ∧ Below w.heap.size w w') := h.nextC
  have H0 : Hid (RIs B b ta tn tc T (t :: r) bad m w) := h
  by_cases hg : bad = false ∧ t.kind = 3
  · obtain ⟨rfl, hk⟩ := hg
    have hn1 : t.kind ≠ 1 := by rw [hk]; decide
    have hX : nameG (t :: r) = pure' t.text r := by rw [nameG, if_pos hk]
    have HXo : Hid ((lift false nameG (t :: r)).rest = r ∧ (lift false nameG (t :: r)).val.isNone = false ∧ m ++ (lift false nameG (t :: r)).many = m ∧ (∀ a, (lift false nameG (t :: r)).val = some a → a = t.text) ∧ t.text.length ≤ 4000) := by
      rw [lift_false, hX]
      exact ⟨rfl, rfl, List.append_nil m, (fun a ha => by cases ha; rfl), hok.text⟩
    have k3 : (t.kind != 3) = false := by rw [hk]; rfl
    clear h hk hX hok
    go_enter Try.func44, Try.ntmps44
    go_wp2_with fail
    refine HNx.out.mono ?_
    rintro e w1 ⟨rfl, hb1⟩
    have hlt := H0.out.lt
    have hbz := hb1.size
    have hp2 := H0.out.below (hb1.trans (((Below.refl w1.heap.size w1).alloc (Nat.le_refl _) (.cells #[.int .i64 t.kind, .int .i64 t.num, .string (bs t.text), .int .i64 (t.pl : Int)] 48)).mono hb1.size))
    obtain ⟨k, mv, hbk, hk4, hp3, hk3⟩ := hp2.stepC hn1
    have b1 := blk (i := 1) hbk rfl
    have b2 := blk (i := 2) hbk rfl
    have f1 := blkf 1 hbk
    have tb : ((w1.alloc (.cells #[.int .i64 t.kind, .int .i64 t.num, .string (bs t.text), .int .i64 (t.pl : Int)] 48)).setCell ⟨b, 1, none⟩ (.int .i64 ((k : Int) + 1))).heap[w1.heap.size]? = some (.cells #[.int .i64 t.kind, .int .i64 t.num, .string (bs t.text), .int .i64 (t.pl : Int)] 48 (0, 0)) := heap_other (heap_alloc_new w1 _) (by omega)
    have tb2 := blk (i := 2) tb rfl
    have HZ : Hid (Kr B b w ((w1.alloc (.cells #[.int .i64 t.kind, .int .i64 t.num, .string (bs t.text), .int .i64 (t.pl : Int)] 48)).setCell ⟨b, 1, none⟩ (.int .i64 ((k : Int) + 1))) ∧ RIs B b ta tn tc T r false m ((w1.alloc (.cells #[.int .i64 t.kind, .int .i64 t.num, .string (bs t.text), .int .i64 (t.pl : Int)] 48)).setCell ⟨b, 1, none⟩ (.int .i64 ((k : Int) + 1)))) := ⟨(Kr.of_below (hb1.trans (((Below.refl w1.heap.size w1).alloc (Nat.le_refl _) (.cells #[.int .i64 t.kind, .int .i64 t.num, .string (bs t.text), .int .i64 (t.pl : Int)] 48)).mono hb1.size))).trans hk3, hp3⟩
    clear hb1 hp2 hbk hp3 hk3 HNx H0 tb hbz
    go_wp2
    go_ret
    exact ⟨t.text, rfl, HZ.out.1, (by rw [HXo.out.1, HXo.out.2.1, HXo.out.2.2.1]; exact HZ.out.2), HXo.out.2.2.2.1, HXo.out.2.2.2.2⟩

  · have hX : (lift bad nameG (t :: r)).rest = t :: r ∧ (lift bad nameG (t :: r)).val = none := by
      cases bad with
      | true => exact ⟨rfl, rfl⟩
      | false =>
        have : nameG (t :: r) = wrong' (t :: r) := by rw [nameG, if_neg (fun e => hg ⟨rfl, e⟩)]
        rw [lift_false, this]; exact ⟨rfl, rfl⟩
    have HP : Hid (∀ w', Kr B b w w' → RIs B b ta tn tc T (t :: r) true m w' → SPost B b ta tn tc T m (lift bad nameG (t :: r)) w (.returned (.string ⟨#[]⟩)) w') := fun w' h1 h2 => ⟨[], rfl, h1, by rw [hX.1, hX.2]; exact h2.any _, (fun a ha => by rw [hX.2] at ha; cases ha), by simp⟩
    have hq : bad = true ∨ (bad = false ∧ (t.kind != 3) = true) := by
      cases bad with
      | true => exact .inl rfl
      | false => exact .inr ⟨rfl, by rw [bne_iff_ne]; exact fun e => hg ⟨rfl, e⟩⟩
    clear h hX hok hg
    rcases hq with rfl | ⟨rfl, k3⟩ <;> (
      go_enter Try.func44, Try.ntmps44
      go_wp2_with fail
      refine HNx.out.mono ?_
      rintro e w1 ⟨rfl, hb1⟩
      have hp2 := H0.out.below (hb1.trans (((Below.refl w1.heap.size w1).alloc (Nat.le_refl _) (.cells #[.int .i64 t.kind, .int .i64 t.num, .string (bs t.text), .int .i64 (t.pl : Int)] 48)).mono hb1.size))
      obtain ⟨k, mv, hbk, hp3, hk3⟩ := hp2.wrongC
      have b2 := blk (i := 2) hbk rfl
      have f2 := blkf 2 hbk
      have HZ : Hid (Kr B b w ((w1.alloc (.cells #[.int .i64 t.kind, .int .i64 t.num, .string (bs t.text), .int .i64 (t.pl : Int)] 48)).setCell ⟨b, 2, none⟩ (.bool true)) ∧ RIs B b ta tn tc T (t :: r) true m ((w1.alloc (.cells #[.int .i64 t.kind, .int .i64 t.num, .string (bs t.text), .int .i64 (t.pl : Int)] 48)).setCell ⟨b, 2, none⟩ (.bool true))) := ⟨(Kr.of_below (hb1.trans (((Below.refl w1.heap.size w1).alloc (Nat.le_refl _) (.cells #[.int .i64 t.kind, .int .i64 t.num, .string (bs t.text), .int .i64 (t.pl : Int)] 48)).mono hb1.size))).trans hk3, hp3⟩
      clear hb1 hp2 hbk hp3 hk3 HNx H0
      go_wp2
      go_ret
      exact HP.out _ HZ.out.1 HZ.out.2)

theorem way_is (t : Tk) : isWayB t.text = (((bs t.text).toList == [103, 108, 111, 98, 97, 108]) || (((bs t.text).toList == [102, 105, 116]) || (((bs t.text).toList == [108, 111, 99, 97, 108]) || ((bs t.text).toList == [101, 120, 116, 101, 110, 100])))) := by
  unfold isWayB
  rw [bs_toList, Bool.eq_iff_iff]
  simp [or_assoc]
theorem way_yes {t : Tk} (h : isWayB t.text = true) : ((bs t.text).toList == [103, 108, 111, 98, 97, 108]) = true ∨ (((bs t.text).toList == [103, 108, 111, 98, 97, 108]) = false ∧ ((bs t.text).toList == [102, 105, 116]) = true) ∨ (((bs t.text).toList == [103, 108, 111, 98, 97, 108]) = false ∧ ((bs t.text).toList == [102, 105, 116]) = false ∧ ((bs t.text).toList == [108, 111, 99, 97, 108]) = true) ∨ (((bs t.text).toList == [103, 108, 111, 98, 97, 108]) = false ∧ ((bs t.text).toList == [102, 105, 116]) = false ∧ ((bs t.text).toList == [108, 111, 99, 97, 108]) = false ∧ ((bs t.text).toList == [101, 120, 116, 101, 110, 100]) = true) := by
  rw [way_is] at h
  revert h
  cases ((bs t.text).toList == [103, 108, 111, 98, 97, 108]) <;> cases ((bs t.text).toList == [102, 105, 116]) <;> cases ((bs t.text).toList == [108, 111, 99, 97, 108]) <;> cases ((bs t.text).toList == [101, 120, 116, 101, 110, 100]) <;> decide
theorem way_no {t : Tk} (h : isWayB t.text = false) : ((bs t.text).toList == [103, 108, 111, 98, 97, 108]) = false ∧ ((bs t.text).toList == [102, 105, 116]) = false ∧ ((bs t.text).toList == [108, 111, 99, 97, 108]) = false ∧ ((bs t.text).toList == [101, 120, 116, 101, 110, 100]) = false := by
  rw [way_is] at h
  revert h
  cases ((bs t.text).toList == [103, 108, 111, 98, 97, 108]) <;> cases ((bs t.text).toList == [102, 105, 116]) <;> cases ((bs t.text).toList == [108, 111, 99, 97, 108]) <;> cases ((bs t.text).toList == [101, 120, 116, 101, 110, 100]) <;> decide

set_option maxRecDepth 20000 in
set_option maxHeartbeats 4000000 in
theorem wayR_calls {B b : Nat} {ta : Option Addr} {tn tc : Nat} {T l : List Tk} {bad : Bool} {m : List Int} (w : World) (h : RIs B b ta tn tc T l bad m w) :
    Calls Try.prog 47 #[.pointer (some ⟨b, 0, none⟩)] w (SPost B b ta tn tc T m (lift bad wayG l) w) := by
  obtain ⟨t, r, rfl⟩ := h.here1
  have hok : TkOk t := by
    obtain ⟨m', h1, _⟩ := h
    exact h1.toks.fits t (h1.mem t (by simp))
  have h : RIs B b ta tn tc T (t :: r) bad m w := h
  have HNx : Hid (Calls Try.prog 26 #[.pointer (some ⟨b, 0, none⟩)] w fun e w' => e = .returned (.agg #[.int .i64 t.kind, .int .i64 t.num, .string (bs t.text), .int .i64 (t.pl : Int)]) ∧ Below w.heap.size w w') := h.nextC
  have H0 : Hid (RIs B b ta tn tc T (t :: r) bad m w) := h
  by_cases hg : bad = false ∧ (t.kind = 4 ∧ isWayB t.text = true)
  · obtain ⟨rfl, hk⟩ := hg
    have hn1 : t.kind ≠ 1 := by rw [hk.1]; decide
    have hX : wayG (t :: r) = pure' t.text r := by rw [wayG, if_pos hk]
    have HXo : Hid ((lift false wayG (t :: r)).rest = r ∧ (lift false wayG (t :: r)).val.isNone = false ∧ m ++ (lift false wayG (t :: r)).many = m ∧ (∀ a, (lift false wayG (t :: r)).val = some a → a = t.text) ∧ t.text.length ≤ 4000) := by
      rw [lift_false, hX]
      exact ⟨rfl, rfl, List.append_nil m, (fun a ha => by cases ha; rfl), hok.text⟩
    have k3 : (t.kind != 4) = false := by rw [hk.1]; rfl
    have hw := way_yes hk.2
    clear h hk hX hok
    rcases hw with q1 | ⟨q1, q2⟩ | ⟨q1, q2, q3⟩ | ⟨q1, q2, q3, q4⟩ <;> (
      go_enter Try.func47, Try.ntmps47
      go_wp2_with fail
      refine HNx.out.mono ?_
      rintro e w1 ⟨rfl, hb1⟩
      have hlt := H0.out.lt
      have hbz := hb1.size
      have hp2 := H0.out.below (hb1.trans (((Below.refl w1.heap.size w1).alloc (Nat.le_refl _) (.cells #[.int .i64 t.kind, .int .i64 t.num, .string (bs t.text), .int .i64 (t.pl : Int)] 48)).mono hb1.size))
      obtain ⟨k, mv, hbk, hk4, hp3, hk3⟩ := hp2.stepC hn1
      have b1 := blk (i := 1) hbk rfl
      have b2 := blk (i := 2) hbk rfl
      have f1 := blkf 1 hbk
      have tb : ((w1.alloc (.cells #[.int .i64 t.kind, .int .i64 t.num, .string (bs t.text), .int .i64 (t.pl : Int)] 48)).setCell ⟨b, 1, none⟩ (.int .i64 ((k : Int) + 1))).heap[w1.heap.size]? = some (.cells #[.int .i64 t.kind, .int .i64 t.num, .string (bs t.text), .int .i64 (t.pl : Int)] 48 (0, 0)) := heap_other (heap_alloc_new w1 _) (by omega)
      have tb2 := blk (i := 2) tb rfl
      have HZ : Hid (Kr B b w ((w1.alloc (.cells #[.int .i64 t.kind, .int .i64 t.num, .string (bs t.text), .int .i64 (t.pl : Int)] 48)).setCell ⟨b, 1, none⟩ (.int .i64 ((k : Int) + 1))) ∧ RIs B b ta tn tc T r false m ((w1.alloc (.cells #[.int .i64 t.kind, .int .i64 t.num, .string (bs t.text), .int .i64 (t.pl : Int)] 48)).setCell ⟨b, 1, none⟩ (.int .i64 ((k : Int) + 1)))) := ⟨(Kr.of_below (hb1.trans (((Below.refl w1.heap.size w1).alloc (Nat.le_refl _) (.cells #[.int .i64 t.kind, .int .i64 t.num, .string (bs t.text), .int .i64 (t.pl : Int)] 48)).mono hb1.size))).trans hk3, hp3⟩
      clear hb1 hp2 hbk hp3 hk3 HNx H0 tb hbz
      go_wp2
      go_ret
      exact ⟨t.text, rfl, HZ.out.1, (by rw [HXo.out.1, HXo.out.2.1, HXo.out.2.2.1]; exact HZ.out.2), HXo.out.2.2.2.1, HXo.out.2.2.2.2⟩)

  · have hX : (lift bad wayG (t :: r)).rest = t :: r ∧ (lift bad wayG (t :: r)).val = none := by
      cases bad with
      | true => exact ⟨rfl, rfl⟩
      | false =>
        have : wayG (t :: r) = wrong' (t :: r) := by rw [wayG, if_neg (fun e => hg ⟨rfl, e⟩)]
        rw [lift_false, this]; exact ⟨rfl, rfl⟩
    have HP : Hid (∀ w', Kr B b w w' → RIs B b ta tn tc T (t :: r) true m w' → SPost B b ta tn tc T m (lift bad wayG (t :: r)) w (.returned (.string ⟨#[]⟩)) w') := fun w' h1 h2 => ⟨[], rfl, h1, by rw [hX.1, hX.2]; exact h2.any _, (fun a ha => by rw [hX.2] at ha; cases ha), by simp⟩
    have hq : bad = true ∨ (bad = false ∧ (t.kind != 4) = true) ∨ (bad = false ∧ (t.kind != 4) = false ∧ ((bs t.text).toList == [103, 108, 111, 98, 97, 108]) = false ∧ ((bs t.text).toList == [102, 105, 116]) = false ∧ ((bs t.text).toList == [108, 111, 99, 97, 108]) = false ∧ ((bs t.text).toList == [101, 120, 116, 101, 110, 100]) = false) := by
      cases bad with
      | true => exact .inl rfl
      | false =>
        by_cases h4 : t.kind = 4
        · refine .inr (.inr ⟨rfl, by rw [h4]; rfl, way_no ?_⟩)
          cases hw : isWayB t.text with
          | false => rfl
          | true => exact absurd ⟨rfl, h4, hw⟩ hg
        · exact .inr (.inl ⟨rfl, by rw [bne_iff_ne]; exact h4⟩)
    clear h hX hok hg
    rcases hq with rfl | ⟨rfl, k3⟩ | ⟨rfl, k3, q1, q2, q3, q4⟩ <;> (
      go_enter Try.func47, Try.ntmps47
      go_wp2_with fail
      refine HNx.out.mono ?_
      rintro e w1 ⟨rfl, hb1⟩
      have hp2 := H0.out.below (hb1.trans (((Below.refl w1.heap.size w1).alloc (Nat.le_refl _) (.cells #[.int .i64 t.kind, .int .i64 t.num, .string (bs t.text), .int .i64 (t.pl : Int)] 48)).mono hb1.size))
      obtain ⟨k, mv, hbk, hp3, hk3⟩ := hp2.wrongC
      have b2 := blk (i := 2) hbk rfl
      have f2 := blkf 2 hbk
      have HZ : Hid (Kr B b w ((w1.alloc (.cells #[.int .i64 t.kind, .int .i64 t.num, .string (bs t.text), .int .i64 (t.pl : Int)] 48)).setCell ⟨b, 2, none⟩ (.bool true)) ∧ RIs B b ta tn tc T (t :: r) true m ((w1.alloc (.cells #[.int .i64 t.kind, .int .i64 t.num, .string (bs t.text), .int .i64 (t.pl : Int)] 48)).setCell ⟨b, 2, none⟩ (.bool true))) := ⟨(Kr.of_below (hb1.trans (((Below.refl w1.heap.size w1).alloc (Nat.le_refl _) (.cells #[.int .i64 t.kind, .int .i64 t.num, .string (bs t.text), .int .i64 (t.pl : Int)] 48)).mono hb1.size))).trans hk3, hp3⟩
      clear hb1 hp2 hbk hp3 hk3 HNx H0
      go_wp2
      go_ret
      exact HP.out _ HZ.out.1 HZ.out.2)

end Go.Proofs.Ytnnmhmlebffacaa
