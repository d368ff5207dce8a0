/-
  What stands in memory while the document's reader reads a factor. The document's factor: what has no others within.
-/
import Derived.Test.YtnnmhmlebffacaaG28
namespace Go.Proofs.Ytnnmhmlebffacaa
open Go.RowKit Go.Deep

section
variable {B b : Nat} {ta : Option Addr} {tn tc : Nat} {T : List Tk} {w : World} {g3 : Nat} {l : List Tk} {bad : Bool} {m : List Int} {h : Hd} {ka : Option Addr} {kn kc : Nat} {W : World} {t : Tk} {r : List Tk}
theorem TR.set (H : TR B b ta tn tc T w g3 l bad m h ka kn kc W) (i : Nat) (u : Value) (h' : Hd) (ka' : Option Addr) (kn' kc' : Nat) (hc : (exArr h ka kn kc).setIfInBounds i u = exArr h' ka' kn' kc') : TR B b ta tn tc T w g3 l bad m h' ka' kn' kc' (W.setCell ⟨g3, i, none⟩ u) := by
  have hnb := H.nb
  have hnB := H.nB
  have hn3 := H.n3
  exact ⟨H.p.other (by omega) (by omega) H.val (by decide) i u, H.kr.setNew (by omega) i u, hnb, hnB, hn3, heap_other H.res (by omega), heap_put H.val hc⟩
theorem TR.step (H : TR B b ta tn tc T w g3 (t :: r) false m h ka kn kc W) (ht : t.kind ≠ 1) : ∃ k mv, W.heap[b]? = some (.cells #[.slice ta tn tc, .int .i64 ((k : Nat) : Int), .bool false, mv] 58 (0, 0)) ∧ k ≤ 4001 ∧ TR B b ta tn tc T w g3 r false m h ka kn kc (W.setCell ⟨b, 1, none⟩ (.int .i64 ((k : Int) + 1))) := by
  obtain ⟨m', h1, h2⟩ := H.p
  obtain ⟨k, mv, tb, to, hk, hkn, hn, _, _, _, hb, _⟩ := h1.cells
  obtain ⟨q1, q2⟩ := h1.step ht hk hb
  exact ⟨k, mv, hb, by omega, H.go q2 ⟨m', q1, h2⟩⟩
theorem TR.wrong (H : TR B b ta tn tc T w g3 l bad m h ka kn kc W) : ∃ cs, W.heap[b]? = some (.cells cs 58 (0, 0)) ∧ cs[2]? = some (.bool bad) ∧ TR B b ta tn tc T w g3 l true m h ka kn kc (W.setCell ⟨b, 2, none⟩ (.bool true)) := by
  obtain ⟨m', h1, h2⟩ := H.p
  obtain ⟨k, mv, mn, _, _, hb, _⟩ := h1.block
  obtain ⟨q1, q2⟩ := h1.bad'
  exact ⟨_, hb, rfl, H.go q2 ⟨m', q1, fun e => by cases e⟩⟩
/-- The variable behind the next token. -/
theorem TR.start (h : RIs B b ta tn tc T (t :: r) bad m w) (hBb : B ≤ b) {w2 : World} (hb2 : Below (w.alloc (.cells zero5 35)).heap.size (w.alloc (.cells zero5 35)) w2) :
    TR B b ta tn tc T w (w2.heap.size + 1) (t :: r) bad m ⟨0, 0, [], (t.pl : Int)⟩ none 0 0 ((w2.alloc (.cells #[.int .i64 t.kind, .int .i64 t.num, .string (bs t.text), .int .i64 (t.pl : Int)] 48)).alloc (.cells #[.int .i64 0, .int .i64 0, .string ⟨#[]⟩, .slice none 0 0, .int .i64 (t.pl : Int)] 35)) ∧
    ((w2.alloc (.cells #[.int .i64 t.kind, .int .i64 t.num, .string (bs t.text), .int .i64 (t.pl : Int)] 48)).alloc (.cells #[.int .i64 0, .int .i64 0, .string ⟨#[]⟩, .slice none 0 0, .int .i64 (t.pl : Int)] 35)).heap[w2.heap.size]? = some (.cells #[.int .i64 t.kind, .int .i64 t.num, .string (bs t.text), .int .i64 (t.pl : Int)] 48 (0, 0)) ∧ w.heap.size + 1 ≤ w2.heap.size := by
  have hlt := h.lt
  have hb0 : Below w.heap.size w (w.alloc (.cells zero5 35)) := (Below.refl _ _).alloc (Nat.le_refl _) _
  have hs2 : w.heap.size + 1 ≤ w2.heap.size := by have := hb2.size; simpa using this
  have hb3 := below_two w2 (.cells #[.int .i64 t.kind, .int .i64 t.num, .string (bs t.text), .int .i64 (t.pl : Int)] 48) (.cells #[.int .i64 0, .int .i64 0, .string ⟨#[]⟩, .slice none 0 0, .int .i64 (t.pl : Int)] 35)
  have hb4 : Below w.heap.size w ((w2.alloc (.cells #[.int .i64 t.kind, .int .i64 t.num, .string (bs t.text), .int .i64 (t.pl : Int)] 48)).alloc (.cells #[.int .i64 0, .int .i64 0, .string ⟨#[]⟩, .slice none 0 0, .int .i64 (t.pl : Int)] 35)) := (hb0.trans (hb2.mono hb0.size)).trans (hb3.mono (by omega))
  refine ⟨⟨h.below hb4, Kr.of_below hb4, hlt, hBb, by omega, ?_, twoN_new w2 _ _⟩, heap_old (heap_alloc_new w2 _), hs2⟩
  rw [hb3.block _ (by omega), hb2.block _ (by simp)]
  exact heap_alloc_new w _
end
theorem fac_two {n : Nat} {t : Tk} {r : List Tk} (h : t.kind = 2) : facN (n + 1) (t :: r) = pure' (⟨1, t.num, [], t.pl⟩, .nil) r := by rw [facN, if_pos h]
theorem fac_three {n : Nat} {t : Tk} {r : List Tk} (h : t.kind = 3) : facN (n + 1) (t :: r) = pure' (⟨2, 0, t.text, t.pl⟩, .nil) r := by rw [facN, if_neg (by omega), if_pos h]
theorem fac_five {n : Nat} {t : Tk} {r : List Tk} (h : t.kind = 5) : facN (n + 1) (t :: r) = pure' (⟨3, 0, t.text, t.pl⟩, .nil) r := by rw [facN, if_neg (by omega), if_neg (by omega), if_pos h]
end Go.Proofs.Ytnnmhmlebffacaa
namespace Go.Proofs.Ytnnmhmlebffacaa
open Go.RowKit Go.Deep

set_option maxRecDepth 20000 in
set_option maxHeartbeats 4000000 in
theorem fR_2 {B b : Nat} {ta : Option Addr} {tn tc : Nat} {T : List Tk} {m : List Int} (n : Nat) (w : World) {t : Tk} {r : List Tk} (h : RIs B b ta tn tc T (t :: r) false m w) (hBb : B ≤ b) (hk : t.kind = 2) :
    Calls Try.prog 90 #[.pointer (some ⟨b, 0, none⟩)] w (RPost B b ta tn tc T m (facN (n + 1) (t :: r)) w) := by
  have hres : Try.f90.results = #[.cell 2 35] := by kernel_rfl
  have hcp := h
  obtain ⟨m9, hA9, -⟩ := hcp
  obtain ⟨k9, mv9, mn9, -, -, hb9, -⟩ := hA9.block
  have hok := hA9.toks.fits t (hA9.mem t (by simp))
  have bw : ∀ o, (w.alloc o).cell? ⟨b, 2, none⟩ = some (.bool false) := fun o => keepc ((Below.refl w.heap.size w).alloc (Nat.le_refl _) o) (blk (i := 2) hb9 rfl)
  have hp0 : RIs B b ta tn tc T (t :: r) false m (w.alloc (.cells zero5 35)) := h.below ((Below.refl _ _).alloc (Nat.le_refl _) _)
  have HNx : Hid (Calls Try.prog 26 #[.pointer (some ⟨b, 0, none⟩)] (w.alloc (.cells zero5 35)) fun e w' => e = .returned (.agg #[.int .i64 t.kind, .int .i64 t.num, .string (bs t.text), .int .i64 (t.pl : Int)]) ∧ Below (w.alloc (.cells zero5 35)).heap.size (w.alloc (.cells zero5 35)) w') := hp0.nextC
  have H0 : Hid (RIs B b ta tn tc T (t :: r) false m w ∧ TkOk t) := ⟨h, hok⟩
  have hlt := h.lt
  have k2 : (t.kind == 2) = true := by rw [beq_iff_eq]; exact hk
  have HX : Hid (facN (n + 1) (t :: r) = pure' (⟨1, t.num, [], (t.pl : Int)⟩, .nil) r) := fac_two hk
  have hn1 : t.kind ≠ 1 := by rw [hk]; decide
  clear hk
  clear h hA9 hb9 hp0 hok
  go_enter Try.func90, Try.ntmps90
  go_wp2_with fail
  refine HNx.out.mono ?_
  rintro e w2 ⟨rfl, hb2⟩
  obtain ⟨hT3, htb3, hs3⟩ := TR.start H0.out.1 hBb hb2
  have H3 : Hid (TR B b ta tn tc T w (w2.heap.size + 1) (t :: r) false m ⟨0, 0, [], (t.pl : Int)⟩ none 0 0 ((w2.alloc (.cells #[.int .i64 t.kind, .int .i64 t.num, .string (bs t.text), .int .i64 (t.pl : Int)] 48)).alloc (.cells #[.int .i64 0, .int .i64 0, .string ⟨#[]⟩, .slice none 0 0, .int .i64 (t.pl : Int)] 35)) ∧ ((w2.alloc (.cells #[.int .i64 t.kind, .int .i64 t.num, .string (bs t.text), .int .i64 (t.pl : Int)] 48)).alloc (.cells #[.int .i64 0, .int .i64 0, .string ⟨#[]⟩, .slice none 0 0, .int .i64 (t.pl : Int)] 35)).heap[w2.heap.size]? = some (.cells #[.int .i64 t.kind, .int .i64 t.num, .string (bs t.text), .int .i64 (t.pl : Int)] 48 (0, 0))) := ⟨hT3, htb3⟩
  obtain ⟨k, mv, hbk, hk4, hT4⟩ := hT3.step hn1
  have hT5 := hT4.set 0 (.int .i64 1) ⟨1, 0, [], (t.pl : Int)⟩ none 0 0 rfl
  have hT6 := hT5.set 1 (.int .i64 t.num) ⟨1, t.num, [], (t.pl : Int)⟩ none 0 0 rfl
  have hb1 := blk (i := 1) hbk rfl
  have hf1 := blkf 1 hbk
  have tb0 := blk (i := 0) htb3 rfl
  have tb5 : ((((w2.alloc (.cells #[.int .i64 t.kind, .int .i64 t.num, .string (bs t.text), .int .i64 (t.pl : Int)] 48)).alloc (.cells #[.int .i64 0, .int .i64 0, .string ⟨#[]⟩, .slice none 0 0, .int .i64 (t.pl : Int)] 35)).setCell ⟨b, 1, none⟩ (.int .i64 ((k : Int) + 1))).setCell ⟨w2.heap.size + 1, 0, none⟩ (.int .i64 1)).heap[w2.heap.size]? = some (.cells #[.int .i64 t.kind, .int .i64 t.num, .string (bs t.text), .int .i64 (t.pl : Int)] 48 (0, 0)) := heap_other (heap_other htb3 (by omega)) (by omega)
  have tu := blk (i := 1) tb5 rfl
  have s4 := hT4.sc
  have s5 := hT5.sc
  obtain ⟨a0, a1, a2, a3, a4⟩ := hT6.sc
  have f4 := hT4.frz
  have f5 := hT5.frz
  obtain ⟨x0, _⟩ := s4
  have y1 := s5.2.1
  obtain ⟨z0, z1, z2, z3, z4, zf⟩ := hT6.zeros
  have HD : Hid _ := hT6.done rfl
  clear hb2 HNx hT3 htb3 hT4 hT5 hT6 hbk H3 tb5 s5
  go_wp2
  refine bodyPost_ret (v := .agg #[.int .i64 (⟨1, t.num, [], (t.pl : Int)⟩ : Hd).kind, .int .i64 (⟨1, t.num, [], (t.pl : Int)⟩ : Hd).num, .string (bs (⟨1, t.num, [], (t.pl : Int)⟩ : Hd).text), .slice none 0 0, .int .i64 (⟨1, t.num, [], (t.pl : Int)⟩ : Hd).pl]) ?_ rfl ?_
  · simp only [results, hres]
    go_simp
  · obtain ⟨d1, d2, d3⟩ := HD.out
    rw [HX.out]
    exact ⟨⟨1, t.num, [], (t.pl : Int)⟩, none, 0, 0, rfl, d1, (by rw [show m ++ (pure' ((⟨1, t.num, [], (t.pl : Int)⟩ : Hd), (.nil : Fo)) r).many = m from List.append_nil m]; exact d2), fun a ha => by
      cases ha
      exact ⟨rfl, tk_hd H0.out.2 (by omega) (.inl rfl) (.inr rfl), Nat.zero_le _, rfl⟩⟩

set_option maxRecDepth 20000 in
set_option maxHeartbeats 4000000 in
theorem fR_3 {B b : Nat} {ta : Option Addr} {tn tc : Nat} {T : List Tk} {m : List Int} (n : Nat) (w : World) {t : Tk} {r : List Tk} (h : RIs B b ta tn tc T (t :: r) false m w) (hBb : B ≤ b) (hk : t.kind = 3) :
    Calls Try.prog 90 #[.pointer (some ⟨b, 0, none⟩)] w (RPost B b ta tn tc T m (facN (n + 1) (t :: r)) w) := by
  have hres : Try.f90.results = #[.cell 2 35] := by kernel_rfl
  have hcp := h
  obtain ⟨m9, hA9, -⟩ := hcp
  obtain ⟨k9, mv9, mn9, -, -, hb9, -⟩ := hA9.block
  have hok := hA9.toks.fits t (hA9.mem t (by simp))
  have bw : ∀ o, (w.alloc o).cell? ⟨b, 2, none⟩ = some (.bool false) := fun o => keepc ((Below.refl w.heap.size w).alloc (Nat.le_refl _) o) (blk (i := 2) hb9 rfl)
  have hp0 : RIs B b ta tn tc T (t :: r) false m (w.alloc (.cells zero5 35)) := h.below ((Below.refl _ _).alloc (Nat.le_refl _) _)
  have HNx : Hid (Calls Try.prog 26 #[.pointer (some ⟨b, 0, none⟩)] (w.alloc (.cells zero5 35)) fun e w' => e = .returned (.agg #[.int .i64 t.kind, .int .i64 t.num, .string (bs t.text), .int .i64 (t.pl : Int)]) ∧ Below (w.alloc (.cells zero5 35)).heap.size (w.alloc (.cells zero5 35)) w') := hp0.nextC
  have H0 : Hid (RIs B b ta tn tc T (t :: r) false m w ∧ TkOk t) := ⟨h, hok⟩
  have hlt := h.lt
  have k2 : (t.kind == 2) = false := by rw [beq_eq_false_iff_ne, hk]; decide
  have k3 : (t.kind == 3) = true := by rw [beq_iff_eq]; exact hk
  have HX : Hid (facN (n + 1) (t :: r) = pure' (⟨2, 0, t.text, (t.pl : Int)⟩, .nil) r) := fac_three hk
  have hn1 : t.kind ≠ 1 := by rw [hk]; decide
  clear hk
  clear h hA9 hb9 hp0 hok
  go_enter Try.func90, Try.ntmps90
  go_wp2_with fail
  refine HNx.out.mono ?_
  rintro e w2 ⟨rfl, hb2⟩
  obtain ⟨hT3, htb3, hs3⟩ := TR.start H0.out.1 hBb hb2
  have H3 : Hid (TR B b ta tn tc T w (w2.heap.size + 1) (t :: r) false m ⟨0, 0, [], (t.pl : Int)⟩ none 0 0 ((w2.alloc (.cells #[.int .i64 t.kind, .int .i64 t.num, .string (bs t.text), .int .i64 (t.pl : Int)] 48)).alloc (.cells #[.int .i64 0, .int .i64 0, .string ⟨#[]⟩, .slice none 0 0, .int .i64 (t.pl : Int)] 35)) ∧ ((w2.alloc (.cells #[.int .i64 t.kind, .int .i64 t.num, .string (bs t.text), .int .i64 (t.pl : Int)] 48)).alloc (.cells #[.int .i64 0, .int .i64 0, .string ⟨#[]⟩, .slice none 0 0, .int .i64 (t.pl : Int)] 35)).heap[w2.heap.size]? = some (.cells #[.int .i64 t.kind, .int .i64 t.num, .string (bs t.text), .int .i64 (t.pl : Int)] 48 (0, 0))) := ⟨hT3, htb3⟩
  obtain ⟨k, mv, hbk, hk4, hT4⟩ := hT3.step hn1
  have hT5 := hT4.set 0 (.int .i64 2) ⟨2, 0, [], (t.pl : Int)⟩ none 0 0 rfl
  have hT6 := hT5.set 2 (.string (bs t.text)) ⟨2, 0, t.text, (t.pl : Int)⟩ none 0 0 rfl
  have hb1 := blk (i := 1) hbk rfl
  have hf1 := blkf 1 hbk
  have tb0 := blk (i := 0) htb3 rfl
  have tb5 : ((((w2.alloc (.cells #[.int .i64 t.kind, .int .i64 t.num, .string (bs t.text), .int .i64 (t.pl : Int)] 48)).alloc (.cells #[.int .i64 0, .int .i64 0, .string ⟨#[]⟩, .slice none 0 0, .int .i64 (t.pl : Int)] 35)).setCell ⟨b, 1, none⟩ (.int .i64 ((k : Int) + 1))).setCell ⟨w2.heap.size + 1, 0, none⟩ (.int .i64 2)).heap[w2.heap.size]? = some (.cells #[.int .i64 t.kind, .int .i64 t.num, .string (bs t.text), .int .i64 (t.pl : Int)] 48 (0, 0)) := heap_other (heap_other htb3 (by omega)) (by omega)
  have tu := blk (i := 2) tb5 rfl
  have s4 := hT4.sc
  have s5 := hT5.sc
  obtain ⟨a0, a1, a2, a3, a4⟩ := hT6.sc
  have f4 := hT4.frz
  have f5 := hT5.frz
  obtain ⟨x0, _⟩ := s4
  have y1 := s5.2.2.1
  obtain ⟨z0, z1, z2, z3, z4, zf⟩ := hT6.zeros
  have HD : Hid _ := hT6.done rfl
  clear hb2 HNx hT3 htb3 hT4 hT5 hT6 hbk H3 tb5 s5
  go_wp2
  refine bodyPost_ret (v := .agg #[.int .i64 (⟨2, 0, t.text, (t.pl : Int)⟩ : Hd).kind, .int .i64 (⟨2, 0, t.text, (t.pl : Int)⟩ : Hd).num, .string (bs (⟨2, 0, t.text, (t.pl : Int)⟩ : Hd).text), .slice none 0 0, .int .i64 (⟨2, 0, t.text, (t.pl : Int)⟩ : Hd).pl]) ?_ rfl ?_
  · simp only [results, hres]
    go_simp
  · obtain ⟨d1, d2, d3⟩ := HD.out
    rw [HX.out]
    exact ⟨⟨2, 0, t.text, (t.pl : Int)⟩, none, 0, 0, rfl, d1, (by rw [show m ++ (pure' ((⟨2, 0, t.text, (t.pl : Int)⟩ : Hd), (.nil : Fo)) r).many = m from List.append_nil m]; exact d2), fun a ha => by
      cases ha
      exact ⟨rfl, tk_hd H0.out.2 (by omega) (.inr rfl) (.inl rfl), Nat.zero_le _, rfl⟩⟩

set_option maxRecDepth 20000 in
set_option maxHeartbeats 4000000 in
theorem fR_5 {B b : Nat} {ta : Option Addr} {tn tc : Nat} {T : List Tk} {m : List Int} (n : Nat) (w : World) {t : Tk} {r : List Tk} (h : RIs B b ta tn tc T (t :: r) false m w) (hBb : B ≤ b) (hk : t.kind = 5) :
    Calls Try.prog 90 #[.pointer (some ⟨b, 0, none⟩)] w (RPost B b ta tn tc T m (facN (n + 1) (t :: r)) w) := by
  have hres : Try.f90.results = #[.cell 2 35] := by kernel_rfl
  have hcp := h
  obtain ⟨m9, hA9, -⟩ := hcp
  obtain ⟨k9, mv9, mn9, -, -, hb9, -⟩ := hA9.block
  have hok := hA9.toks.fits t (hA9.mem t (by simp))
  have bw : ∀ o, (w.alloc o).cell? ⟨b, 2, none⟩ = some (.bool false) := fun o => keepc ((Below.refl w.heap.size w).alloc (Nat.le_refl _) o) (blk (i := 2) hb9 rfl)
  have hp0 : RIs B b ta tn tc T (t :: r) false m (w.alloc (.cells zero5 35)) := h.below ((Below.refl _ _).alloc (Nat.le_refl _) _)
  have HNx : Hid (Calls Try.prog 26 #[.pointer (some ⟨b, 0, none⟩)] (w.alloc (.cells zero5 35)) fun e w' => e = .returned (.agg #[.int .i64 t.kind, .int .i64 t.num, .string (bs t.text), .int .i64 (t.pl : Int)]) ∧ Below (w.alloc (.cells zero5 35)).heap.size (w.alloc (.cells zero5 35)) w') := hp0.nextC
  have H0 : Hid (RIs B b ta tn tc T (t :: r) false m w ∧ TkOk t) := ⟨h, hok⟩
  have hlt := h.lt
  have k2 : (t.kind == 2) = false := by rw [beq_eq_false_iff_ne, hk]; decide
  have k3 : (t.kind == 3) = false := by rw [beq_eq_false_iff_ne, hk]; decide
  have k5 : (t.kind == 5) = true := by rw [beq_iff_eq]; exact hk
  have HX : Hid (facN (n + 1) (t :: r) = pure' (⟨3, 0, t.text, (t.pl : Int)⟩, .nil) r) := fac_five hk
  have hn1 : t.kind ≠ 1 := by rw [hk]; decide
  clear hk
  clear h hA9 hb9 hp0 hok
  go_enter Try.func90, Try.ntmps90
  go_wp2_with fail
  refine HNx.out.mono ?_
  rintro e w2 ⟨rfl, hb2⟩
  obtain ⟨hT3, htb3, hs3⟩ := TR.start H0.out.1 hBb hb2
  have H3 : Hid (TR B b ta tn tc T w (w2.heap.size + 1) (t :: r) false m ⟨0, 0, [], (t.pl : Int)⟩ none 0 0 ((w2.alloc (.cells #[.int .i64 t.kind, .int .i64 t.num, .string (bs t.text), .int .i64 (t.pl : Int)] 48)).alloc (.cells #[.int .i64 0, .int .i64 0, .string ⟨#[]⟩, .slice none 0 0, .int .i64 (t.pl : Int)] 35)) ∧ ((w2.alloc (.cells #[.int .i64 t.kind, .int .i64 t.num, .string (bs t.text), .int .i64 (t.pl : Int)] 48)).alloc (.cells #[.int .i64 0, .int .i64 0, .string ⟨#[]⟩, .slice none 0 0, .int .i64 (t.pl : Int)] 35)).heap[w2.heap.size]? = some (.cells #[.int .i64 t.kind, .int .i64 t.num, .string (bs t.text), .int .i64 (t.pl : Int)] 48 (0, 0))) := ⟨hT3, htb3⟩
  obtain ⟨k, mv, hbk, hk4, hT4⟩ := hT3.step hn1
  have hT5 := hT4.set 0 (.int .i64 3) ⟨3, 0, [], (t.pl : Int)⟩ none 0 0 rfl
  have hT6 := hT5.set 2 (.string (bs t.text)) ⟨3, 0, t.text, (t.pl : Int)⟩ none 0 0 rfl
  have hb1 := blk (i := 1) hbk rfl
  have hf1 := blkf 1 hbk
  have tb0 := blk (i := 0) htb3 rfl
  have tb5 : ((((w2.alloc (.cells #[.int .i64 t.kind, .int .i64 t.num, .string (bs t.text), .int .i64 (t.pl : Int)] 48)).alloc (.cells #[.int .i64 0, .int .i64 0, .string ⟨#[]⟩, .slice none 0 0, .int .i64 (t.pl : Int)] 35)).setCell ⟨b, 1, none⟩ (.int .i64 ((k : Int) + 1))).setCell ⟨w2.heap.size + 1, 0, none⟩ (.int .i64 3)).heap[w2.heap.size]? = some (.cells #[.int .i64 t.kind, .int .i64 t.num, .string (bs t.text), .int .i64 (t.pl : Int)] 48 (0, 0)) := heap_other (heap_other htb3 (by omega)) (by omega)
  have tu := blk (i := 2) tb5 rfl
  have s4 := hT4.sc
  have s5 := hT5.sc
  obtain ⟨a0, a1, a2, a3, a4⟩ := hT6.sc
  have f4 := hT4.frz
  have f5 := hT5.frz
  obtain ⟨x0, _⟩ := s4
  have y1 := s5.2.2.1
  obtain ⟨z0, z1, z2, z3, z4, zf⟩ := hT6.zeros
  have HD : Hid _ := hT6.done rfl
  clear hb2 HNx hT3 htb3 hT4 hT5 hT6 hbk H3 tb5 s5
  go_wp2
  refine bodyPost_ret (v := .agg #[.int .i64 (⟨3, 0, t.text, (t.pl : Int)⟩ : Hd).kind, .int .i64 (⟨3, 0, t.text, (t.pl : Int)⟩ : Hd).num, .string (bs (⟨3, 0, t.text, (t.pl : Int)⟩ : Hd).text), .slice none 0 0, .int .i64 (⟨3, 0, t.text, (t.pl : Int)⟩ : Hd).pl]) ?_ rfl ?_
  · simp only [results, hres]
    go_simp
  · obtain ⟨d1, d2, d3⟩ := HD.out
    rw [HX.out]
    exact ⟨⟨3, 0, t.text, (t.pl : Int)⟩, none, 0, 0, rfl, d1, (by rw [show m ++ (pure' ((⟨3, 0, t.text, (t.pl : Int)⟩ : Hd), (.nil : Fo)) r).many = m from List.append_nil m]; exact d2), fun a ha => by
      cases ha
      exact ⟨rfl, tk_hd H0.out.2 (by omega) (.inr rfl) (.inl rfl), Nat.zero_le _, rfl⟩⟩

end Go.Proofs.Ytnnmhmlebffacaa
