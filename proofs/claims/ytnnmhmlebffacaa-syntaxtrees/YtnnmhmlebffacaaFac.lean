/-
  Factors, terms, expressions: for every list of tokens.
-/
import Derived.Test.YtnnmhmlebffacaaComp2
namespace Go.Proofs.Ytnnmhmlebffacaa
open Go.RowKit Go.Deep

theorem comp_calls {b : Nat} {ta : Option Addr} {tn tc : Nat} {T : List Tk} {n : Nat} {f : Int × Int} (w : World) {t : Tk} {r : List Tk} (h : PAt b ta tn tc T (t :: r) f w) (hl : r.length ≤ n)
    (HF : ∀ l f w, PAt b ta tn tc T l f w → l.length ≤ n → Calls Try.prog 94 #[.pointer (some ⟨b, 0, none⟩)] w (PPost b ta tn tc T f (facN n l) (VEx w.heap.size) w))
    (h2 : t.kind ≠ 2) (h3 : t.kind ≠ 3) (h5 : t.kind ≠ 5) : Calls Try.prog 98 #[.pointer (some ⟨b, 0, none⟩)] w (PPost b ta tn tc T f (facN (n + 1) (t :: r)) (VEx w.heap.size) w) := by
  have HE := expr_calls n (term_calls n HF)
  have HK := kids_calls n (exprG (facN n)) (expr_suf (fac_suf n)) HE
  rw [facN, if_neg h2, if_neg h3, if_neg h5]
  cases ha : isT 6 [45] t with
  | true => rw [if_pos rfl]; exact comp_neg w h hl HF ha
  | false =>
    rw [if_neg (by decide)]
    cases hb : isT 6 [40] t with
    | true => rw [if_pos rfl]; exact comp_paren w h hl HE ha hb
    | false =>
      rw [if_neg (by decide)]
      unfold wMin wMax
      cases hc : isT 4 [109, 105, 110] t with
      | true => rw [if_pos rfl]; exact comp_min w h hl HK ha hb hc
      | false =>
        rw [if_neg (by decide)]
        cases hd : isT 4 [109, 97, 120] t with
        | true => rw [if_pos rfl]; exact comp_max w h hl HK ha hb hc hd
        | false => rw [if_neg (by decide)]; exact comp_wrong w h ha hb hc hd
theorem tk_hd {t : Tk} (h : TkOk t) {k : Int} (hk : 0 ≤ k ∧ k ≤ 100) {z : Int} {s : List UInt8} (hz : z = t.num ∨ z = 0) (hs : s = t.text ∨ s = []) : HdOk ⟨k, z, s, t.pl⟩ := by
  have h1 := h.num
  have h2 := h.text
  have h3 := h.pl
  refine ⟨?_, ?_, ?_, ?_⟩
  · show InR k; unfold InR; omega
  · show InR z; unfold InR; omega
  · show s.length ≤ maxLen
    unfold maxLen
    rcases hs with rfl | rfl
    · omega
    · simp
  · show InR (t.pl : Int); unfold InR; omega
set_option maxRecDepth 20000 in
set_option maxHeartbeats 2000000 in
theorem fac_lit2 {b : Nat} {ta : Option Addr} {tn tc : Nat} {T : List Tk} {f : Int × Int} (w : World) {t : Tk} {r : List Tk} (h : PAt b ta tn tc T (t :: r) f w) (hk : t.kind = 2) :
    Calls Try.prog 94 #[.pointer (some ⟨b, 0, none⟩)] w (PPost b ta tn tc T f (pure' ((⟨1, t.num, [], t.pl⟩ : Hd), (BT.nil : Fo)) r) (VEx w.heap.size) w) := by
  have hres : Try.f94.results = #[.cell 2 35] := by kernel_rfl
  have HC0 : Hid (CL b ta tn tc T w (t :: r) f (w.alloc (.cells zero5 35))) := CL.start h
  have HOk : Hid (TkOk t) := pl_le h
  have hfd := fld48_0
  have HH : Hid (∀ w, PAt b ta tn tc T (t :: r) f w → Calls Try.prog 38 #[.pointer (some ⟨b, 0, none⟩)] w fun e w' => e = .returned (.agg #[.int .i64 t.kind, .int .i64 t.num, .string (bs t.text), .int .i64 (t.pl : Int)]) ∧ Below w.heap.size w w') := fun w h => here_calls w h
  have HN : Hid (∀ w, PAt b ta tn tc T (t :: r) f w → Calls Try.prog 85 #[.pointer (some ⟨b, 0, none⟩)] w fun e w' => e = .returned (.agg #[.int .i64 t.kind, .int .i64 t.num, .string (bs t.text), .int .i64 (t.pl : Int)]) ∧ Kp b w w' ∧ PAt b ta tn tc T r f w') := fun w h => nextP_calls w h (by rw [hk]; decide)
  have q2 : (t.kind == 2) = true := by rw [hk]; decide
  clear hk h
  go_enter Try.func94, Try.ntmps94
  go_wp2_with fail
  refine (HH.out _ HC0.out.p).mono ?_
  rintro e w1 ⟨rfl, hb1⟩
  have HC1 : Hid (CL b ta tn tc T w (t :: r) f w1) := HC0.out.next hb1
  clear hb1 HH HC0
  go_wp2_with fail
  refine (HN.out _ HC1.out.p).mono ?_
  rintro e w2 ⟨rfl, hk2, hp2⟩
  have HC2 : Hid (∀ o, CL b ta tn tc T w r f (w2.alloc o)) := fun o => (HC1.out.go hk2 hp2).next ((Below.refl _ _).alloc (Nat.le_refl _) o)
  have HF3 : Hid (∀ o, ExAt true (fun g => w.heap.size < g) (w2.alloc o) (⟨1, t.num, [], t.pl⟩, (BT.nil : Fo)) none 0) := fun o => ⟨tk_hd HOk.out (by omega) (.inl rfl) (.inr rfl), Nat.zero_le _, rfl⟩
  have z0 := fun o => (HC2.out o).zeros.1
  have z1 := fun o => (HC2.out o).zeros.2.1
  have z2 := fun o => (HC2.out o).zeros.2.2.1
  have z3 := fun o => (HC2.out o).zeros.2.2.2.1
  have z4 := fun o => (HC2.out o).zeros.2.2.2.2.1
  have zf := fun o i => (HC2.out o).zeros.2.2.2.2.2 i
  have hne : ¬ w.heap.size = w2.heap.size := by have := HC1.out.size; have := hk2.size; omega
  have HD : Hid (∀ o, _) := fun o => (HC2.out o).done (kc := 0) (HF3.out o)
  clear hk2 hp2 HN HC1
  go_wp2
  refine bodyPost_ret (v := .agg #[.int .i64 1, .int .i64 t.num, .string ⟨#[]⟩, .slice none 0 0, .int .i64 (t.pl : Int)]) ?_ rfl ?_
  · simp only [results, hres]
    go_simp
  · refine ⟨(HD.out _).1, .inl ⟨_, _, rfl, rfl, (HD.out _).2.2, ?_⟩⟩
    exact (flt_nil f).symm ▸ (HD.out _).2.1
set_option maxRecDepth 20000 in
set_option maxHeartbeats 2000000 in
theorem fac_lit3 {b : Nat} {ta : Option Addr} {tn tc : Nat} {T : List Tk} {f : Int × Int} (w : World) {t : Tk} {r : List Tk} (h : PAt b ta tn tc T (t :: r) f w) (hk : t.kind = 3) :
    Calls Try.prog 94 #[.pointer (some ⟨b, 0, none⟩)] w (PPost b ta tn tc T f (pure' ((⟨2, 0, t.text, t.pl⟩ : Hd), (BT.nil : Fo)) r) (VEx w.heap.size) w) := by
  have hres : Try.f94.results = #[.cell 2 35] := by kernel_rfl
  have HC0 : Hid (CL b ta tn tc T w (t :: r) f (w.alloc (.cells zero5 35))) := CL.start h
  have HOk : Hid (TkOk t) := pl_le h
  have hfd := fld48_0
  have HH : Hid (∀ w, PAt b ta tn tc T (t :: r) f w → Calls Try.prog 38 #[.pointer (some ⟨b, 0, none⟩)] w fun e w' => e = .returned (.agg #[.int .i64 t.kind, .int .i64 t.num, .string (bs t.text), .int .i64 (t.pl : Int)]) ∧ Below w.heap.size w w') := fun w h => here_calls w h
  have HN : Hid (∀ w, PAt b ta tn tc T (t :: r) f w → Calls Try.prog 85 #[.pointer (some ⟨b, 0, none⟩)] w fun e w' => e = .returned (.agg #[.int .i64 t.kind, .int .i64 t.num, .string (bs t.text), .int .i64 (t.pl : Int)]) ∧ Kp b w w' ∧ PAt b ta tn tc T r f w') := fun w h => nextP_calls w h (by rw [hk]; decide)
  have q2 : (t.kind == 2) = false := by rw [hk]; decide
  have q3 : (t.kind == 3) = true := by rw [hk]; decide
  clear hk h
  go_enter Try.func94, Try.ntmps94
  go_wp2_with fail
  refine (HH.out _ HC0.out.p).mono ?_
  rintro e w1 ⟨rfl, hb1⟩
  have HC1 : Hid (CL b ta tn tc T w (t :: r) f w1) := HC0.out.next hb1
  clear hb1 HH HC0
  go_wp2_with fail
  refine (HN.out _ HC1.out.p).mono ?_
  rintro e w2 ⟨rfl, hk2, hp2⟩
  have HC2 : Hid (∀ o, CL b ta tn tc T w r f (w2.alloc o)) := fun o => (HC1.out.go hk2 hp2).next ((Below.refl _ _).alloc (Nat.le_refl _) o)
  have HF3 : Hid (∀ o, ExAt true (fun g => w.heap.size < g) (w2.alloc o) (⟨2, 0, t.text, t.pl⟩, (BT.nil : Fo)) none 0) := fun o => ⟨tk_hd HOk.out (by omega) (.inr rfl) (.inl rfl), Nat.zero_le _, rfl⟩
  have z0 := fun o => (HC2.out o).zeros.1
  have z1 := fun o => (HC2.out o).zeros.2.1
  have z2 := fun o => (HC2.out o).zeros.2.2.1
  have z3 := fun o => (HC2.out o).zeros.2.2.2.1
  have z4 := fun o => (HC2.out o).zeros.2.2.2.2.1
  have zf := fun o i => (HC2.out o).zeros.2.2.2.2.2 i
  have hne : ¬ w.heap.size = w2.heap.size := by have := HC1.out.size; have := hk2.size; omega
  have HD : Hid (∀ o, _) := fun o => (HC2.out o).done (kc := 0) (HF3.out o)
  clear hk2 hp2 HN HC1
  go_wp2
  refine bodyPost_ret (v := .agg #[.int .i64 2, .int .i64 0, .string (bs t.text), .slice none 0 0, .int .i64 (t.pl : Int)]) ?_ rfl ?_
  · simp only [results, hres]
    go_simp
  · refine ⟨(HD.out _).1, .inl ⟨_, _, rfl, rfl, (HD.out _).2.2, ?_⟩⟩
    exact (flt_nil f).symm ▸ (HD.out _).2.1
set_option maxRecDepth 20000 in
set_option maxHeartbeats 2000000 in
theorem fac_lit5 {b : Nat} {ta : Option Addr} {tn tc : Nat} {T : List Tk} {f : Int × Int} (w : World) {t : Tk} {r : List Tk} (h : PAt b ta tn tc T (t :: r) f w) (hk : t.kind = 5) :
    Calls Try.prog 94 #[.pointer (some ⟨b, 0, none⟩)] w (PPost b ta tn tc T f (pure' ((⟨3, 0, t.text, t.pl⟩ : Hd), (BT.nil : Fo)) r) (VEx w.heap.size) w) := by
  have hres : Try.f94.results = #[.cell 2 35] := by kernel_rfl
  have HC0 : Hid (CL b ta tn tc T w (t :: r) f (w.alloc (.cells zero5 35))) := CL.start h
  have HOk : Hid (TkOk t) := pl_le h
  have hfd := fld48_0
  have HH : Hid (∀ w, PAt b ta tn tc T (t :: r) f w → Calls Try.prog 38 #[.pointer (some ⟨b, 0, none⟩)] w fun e w' => e = .returned (.agg #[.int .i64 t.kind, .int .i64 t.num, .string (bs t.text), .int .i64 (t.pl : Int)]) ∧ Below w.heap.size w w') := fun w h => here_calls w h
  have HN : Hid (∀ w, PAt b ta tn tc T (t :: r) f w → Calls Try.prog 85 #[.pointer (some ⟨b, 0, none⟩)] w fun e w' => e = .returned (.agg #[.int .i64 t.kind, .int .i64 t.num, .string (bs t.text), .int .i64 (t.pl : Int)]) ∧ Kp b w w' ∧ PAt b ta tn tc T r f w') := fun w h => nextP_calls w h (by rw [hk]; decide)
  have q2 : (t.kind == 2) = false := by rw [hk]; decide
  have q3 : (t.kind == 3) = false := by rw [hk]; decide
  have q5 : (t.kind == 5) = true := by rw [hk]; decide
  clear hk h
  go_enter Try.func94, Try.ntmps94
  go_wp2_with fail
  refine (HH.out _ HC0.out.p).mono ?_
  rintro e w1 ⟨rfl, hb1⟩
  have HC1 : Hid (CL b ta tn tc T w (t :: r) f w1) := HC0.out.next hb1
  clear hb1 HH HC0
  go_wp2_with fail
  refine (HN.out _ HC1.out.p).mono ?_
  rintro e w2 ⟨rfl, hk2, hp2⟩
  have HC2 : Hid (∀ o, CL b ta tn tc T w r f (w2.alloc o)) := fun o => (HC1.out.go hk2 hp2).next ((Below.refl _ _).alloc (Nat.le_refl _) o)
  have HF3 : Hid (∀ o, ExAt true (fun g => w.heap.size < g) (w2.alloc o) (⟨3, 0, t.text, t.pl⟩, (BT.nil : Fo)) none 0) := fun o => ⟨tk_hd HOk.out (by omega) (.inr rfl) (.inl rfl), Nat.zero_le _, rfl⟩
  have z0 := fun o => (HC2.out o).zeros.1
  have z1 := fun o => (HC2.out o).zeros.2.1
  have z2 := fun o => (HC2.out o).zeros.2.2.1
  have z3 := fun o => (HC2.out o).zeros.2.2.2.1
  have z4 := fun o => (HC2.out o).zeros.2.2.2.2.1
  have zf := fun o i => (HC2.out o).zeros.2.2.2.2.2 i
  have hne : ¬ w.heap.size = w2.heap.size := by have := HC1.out.size; have := hk2.size; omega
  have HD : Hid (∀ o, _) := fun o => (HC2.out o).done (kc := 0) (HF3.out o)
  clear hk2 hp2 HN HC1
  go_wp2
  refine bodyPost_ret (v := .agg #[.int .i64 3, .int .i64 0, .string (bs t.text), .slice none 0 0, .int .i64 (t.pl : Int)]) ?_ rfl ?_
  · simp only [results, hres]
    go_simp
  · refine ⟨(HD.out _).1, .inl ⟨_, _, rfl, rfl, (HD.out _).2.2, ?_⟩⟩
    exact (flt_nil f).symm ▸ (HD.out _).2.1
set_option maxRecDepth 20000 in
set_option maxHeartbeats 2000000 in
theorem fac_comp {b : Nat} {ta : Option Addr} {tn tc : Nat} {T : List Tk} {n : Nat} {f : Int × Int} (w : World) {t : Tk} {r : List Tk} (h : PAt b ta tn tc T (t :: r) f w) (hl : r.length ≤ n)
    (HF : ∀ l f w, PAt b ta tn tc T l f w → l.length ≤ n → Calls Try.prog 94 #[.pointer (some ⟨b, 0, none⟩)] w (PPost b ta tn tc T f (facN n l) (VEx w.heap.size) w))
    (h2 : t.kind ≠ 2) (h3 : t.kind ≠ 3) (h5 : t.kind ≠ 5) : Calls Try.prog 94 #[.pointer (some ⟨b, 0, none⟩)] w (PPost b ta tn tc T f (facN (n + 1) (t :: r)) (VEx w.heap.size) w) := by
  have hres : Try.f94.results = #[.cell 2 35] := by kernel_rfl
  have HC0 : Hid (CL b ta tn tc T w (t :: r) f (w.alloc (.cells zero5 35))) := CL.start h
  have HOk : Hid (TkOk t) := pl_le h
  have hfd := fld48_0
  have HH : Hid (∀ w, PAt b ta tn tc T (t :: r) f w → Calls Try.prog 38 #[.pointer (some ⟨b, 0, none⟩)] w fun e w' => e = .returned (.agg #[.int .i64 t.kind, .int .i64 t.num, .string (bs t.text), .int .i64 (t.pl : Int)]) ∧ Below w.heap.size w w') := fun w h => here_calls w h
  have q2 : (t.kind == 2) = false := by rw [beq_eq_false_iff_ne]; exact h2
  have q3 : (t.kind == 3) = false := by rw [beq_eq_false_iff_ne]; exact h3
  have q5 : (t.kind == 5) = false := by rw [beq_eq_false_iff_ne]; exact h5
  have HM : Hid (∀ W, PAt b ta tn tc T (t :: r) f W → Calls Try.prog 98 #[.pointer (some ⟨b, 0, none⟩)] W (PPost b ta tn tc T f (facN (n + 1) (t :: r)) (VEx W.heap.size) W)) := fun W hW => comp_calls W hW hl HF h2 h3 h5
  generalize facN (n + 1) (t :: r) = X at *
  clear h2 h3 h5 HF h
  cases hx : X.val with
  | none =>
    have HN : Hid (∀ W, PAt b ta tn tc T (t :: r) f W → Calls Try.prog 98 #[.pointer (some ⟨b, 0, none⟩)] W fun e w' => ∃ v, e = .panicked [{ v := .iface 27 v, recovered := false }] ∧ Kp b W w' ∧ PAt b ta tn tc T X.rest (70, plOf X.rest) w') := fun W hW => calls_no (HM.out W hW) hx
    have HXn : Hid (X.val = none) := hx
    clear HM hx
    go_enter Try.func94, Try.ntmps94
    go_wp2_with fail
    refine (HH.out _ HC0.out.p).mono ?_
    rintro e w1 ⟨rfl, hb1⟩
    have HC1 : Hid (CL b ta tn tc T w (t :: r) f w1) := HC0.out.next hb1
    clear hb1 HH HC0
    go_wp2_with fail
    refine (HN.out _ HC1.out.p).mono ?_
    rintro e w2 ⟨v, rfl, hk2, hp2⟩
    exact ⟨rfl, HC1.out.kp.trans hk2, .inr ⟨HXn.out, ⟨v, rfl⟩, hp2⟩⟩
  | some a =>
    have HN : Hid (∀ W, PAt b ta tn tc T (t :: r) f W → Calls Try.prog 98 #[.pointer (some ⟨b, 0, none⟩)] W fun e w' => ∃ ka kn kc, e = .returned (.agg #[.int .i64 a.1.kind, .int .i64 a.1.num, .string (bs a.1.text), .slice ka kn kc, .int .i64 a.1.pl]) ∧ ExAt true (fun g => W.heap.size ≤ g) w' a ka kn ∧ Kp b W w' ∧ PAt b ta tn tc T X.rest (flt X.many f) w') := fun W hW => ex_ok (HM.out W hW) hx
    have HXn : Hid (X.val = some a) := hx
    clear HM hx
    go_enter Try.func94, Try.ntmps94
    go_wp2_with fail
    refine (HH.out _ HC0.out.p).mono ?_
    rintro e w1 ⟨rfl, hb1⟩
    have HC1 : Hid (CL b ta tn tc T w (t :: r) f w1) := HC0.out.next hb1
    clear hb1 HH HC0
    go_wp2_with fail
    refine (HN.out _ HC1.out.p).mono ?_
    rintro e w2 ⟨ka, kn, kc, rfl, hE2, hk2, hp2⟩
    have HC2 : Hid (CL b ta tn tc T w X.rest (flt X.many f) w2) := HC1.out.go hk2 hp2
    have HF3 : Hid (ExAt true (fun g => w.heap.size < g) w2 a ka kn) := hE2.base fun g _ hg => by
      have h4 : w1.heap.size ≤ g := hg
      have h5 := HC1.out.size
      show w.heap.size < g
      omega
    obtain ⟨z0, z1, z2, z3, z4, zf⟩ := HC2.out.zeros
    have HD : Hid _ := HC2.out.done (kc := kc) HF3.out
    clear hE2 hk2 hp2 HN HC1 HC2 HF3
    go_wp2
    refine bodyPost_ret (v := .agg #[.int .i64 a.1.kind, .int .i64 a.1.num, .string (bs a.1.text), .slice ka kn kc, .int .i64 a.1.pl]) ?_ rfl ?_
    · simp only [results, hres]
      go_simp
    · exact ⟨HD.out.1, .inl ⟨_, _, HXn.out, rfl, HD.out.2.2, HD.out.2.1⟩⟩
theorem fac_calls {b : Nat} {ta : Option Addr} {tn tc : Nat} {T : List Tk} : ∀ (n : Nat) (l : List Tk) (f : Int × Int) (w : World), PAt b ta tn tc T l f w → l.length ≤ n → Calls Try.prog 94 #[.pointer (some ⟨b, 0, none⟩)] w (PPost b ta tn tc T f (facN n l) (VEx w.heap.size) w)
  | 0, l, f, w, h, hl => by
    obtain ⟨t, r, rfl⟩ := h.here1
    simp at hl
  | n + 1, l, f, w, h, hl => by
    obtain ⟨t, r, rfl⟩ := h.here1
    have hl' : r.length ≤ n := by simpa using hl
    by_cases h2 : t.kind = 2
    · rw [facN, if_pos h2]; exact fac_lit2 w h h2
    · by_cases h3 : t.kind = 3
      · rw [facN, if_neg h2, if_pos h3]; exact fac_lit3 w h h3
      · by_cases h5 : t.kind = 5
        · rw [facN, if_neg h2, if_neg h3, if_pos h5]; exact fac_lit5 w h h5
        · exact fac_comp w h hl' (fac_calls n) h2 h3 h5
theorem exprN_calls {b : Nat} {ta : Option Addr} {tn tc : Nat} {T : List Tk} (n : Nat) (l : List Tk) (f : Int × Int) (w : World) (h : PAt b ta tn tc T l f w) (hl : l.length ≤ n) : Calls Try.prog 65 #[.pointer (some ⟨b, 0, none⟩)] w (PPost b ta tn tc T f (exprN n l) (VEx w.heap.size) w) :=
  expr_calls n (term_calls n (fac_calls n)) l f w h hl

end Go.Proofs.Ytnnmhmlebffacaa
