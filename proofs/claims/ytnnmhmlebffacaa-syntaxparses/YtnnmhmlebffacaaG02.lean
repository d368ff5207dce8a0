/-
  The cursor: here, sees, next; the parser's wrong, tooMany, sign. The parser's wrong, tooMany, sign.
-/
import Derived.WalkKit
import Derived.Test.YtnnmhmlebffacaaG01
namespace Go.Proofs.Ytnnmhmlebffacaa
open Go.RowKit Go.Deep

theorem PAt.cells {b : Nat} {ta : Option Addr} {tn tc : Nat} {T : List Tk} {f : Int × Int} {w : World} {t : Tk} {r : List Tk} (h : PAt b ta tn tc T (t :: r) f w) :
    ∃ k tb to, T.drop k = t :: r ∧ k < tn ∧ tn ≤ 4001 ∧ k < T.length ∧ ta = some ⟨tb, to, none⟩ ∧ tb < b ∧ w.heap[b]? = some (.cells #[.slice ta tn tc, .int .i64 (k : Int), .int .i64 f.1, .int .i64 f.2] 52 (0, 0)) ∧
      w.cell? ⟨tb, to + k * 4, none⟩ = some (.int .i64 t.kind) ∧ w.cell? ⟨tb, to + k * 4 + 1, none⟩ = some (.int .i64 t.num) ∧ w.cell? ⟨tb, to + k * 4 + 2, none⟩ = some (.string (bs t.text)) ∧ w.cell? ⟨tb, to + k * 4 + 3, none⟩ = some (.int .i64 (t.pl : Int)) := by
  obtain ⟨k, h1, h2, h3⟩ := h.block
  have hl := h.toks.length
  obtain ⟨tb, to, rfl, hc⟩ := h.toks.cells (by omega)
  have hk : T[k]? = some t := by
    have := congrArg (·[0]?) h1
    simpa using this
  obtain ⟨c1, c2, c3, c4⟩ := hc k t hk
  have hf := h.few
  exact ⟨k, tb, to, h1, by omega, by omega, h2, rfl, h.low _ rfl, h3, c1, c2, c3, c4⟩
theorem blk {w : World} {g i : Nat} {cs : Array Value} {ty : TypeId} {u : Value} (h : w.heap[g]? = some (.cells cs ty (0, 0))) (hi : cs[i]? = some u) : w.cell? ⟨g, i, none⟩ = some u := by
  rw [cell_of_row w g i _ _ _ h]; exact hi
theorem blkf {w : World} {g : Nat} (i : Nat) {cs : Array Value} {ty : TypeId} (h : w.heap[g]? = some (.cells cs ty (0, 0))) : w.frozen? ⟨g, i, none⟩ = false := frozen_of_row w g i _ _ h

set_option maxHeartbeats 1000000 in
theorem here_calls {b : Nat} {ta : Option Addr} {tn tc : Nat} {T : List Tk} {f : Int × Int} (w : World) {t : Tk} {r : List Tk} (h : PAt b ta tn tc T (t :: r) f w) :
    Calls Try.prog 38 #[.pointer (some ⟨b, 0, none⟩)] w fun e w' => e = .returned (tkAgg t) ∧ Below w.heap.size w w' := by
  have hres : Try.f38.results = #[.cell 2 48] := by kernel_rfl
  obtain ⟨k, tb, to, _, hkn, hn, _, rfl, hlow, hb, c1, c2, c3, c4⟩ := h.cells
  have hlt := h.lt
  have HK : Hid (Below w.heap.size w (w.alloc (.cells #[.int .i64 0, .int .i64 0, .string ⟨#[]⟩, .int .i64 0] 48))) := (Below.refl _ _).alloc (Nat.le_refl _) _
  have ho := heap_alloc_new w (.cells #[.int .i64 0, .int .i64 0, .string ⟨#[]⟩, .int .i64 0] 48)
  have b0 := blk (i := 0) hb rfl
  have b1 := blk (i := 1) hb rfl
  rw [← HK.out.cell (p := ⟨b, 0, none⟩) hlt] at b0
  rw [← HK.out.cell (p := ⟨b, 1, none⟩) hlt] at b1
  rw [← HK.out.cell (World.block_lt_of_cell? w _ c1)] at c1
  rw [← HK.out.cell (World.block_lt_of_cell? w _ c2)] at c2
  rw [← HK.out.cell (World.block_lt_of_cell? w _ c3)] at c3
  rw [← HK.out.cell (World.block_lt_of_cell? w _ c4)] at c4
  unfold tkAgg
  generalize t.kind = x1 at *
  generalize t.num = x2 at *
  generalize bs t.text = x3 at *
  generalize t.pl = x4 at *
  clear h hb
  go_enter Try.func38, Try.ntmps38
  go_wp2_with fail
  generalize w.alloc (.cells #[.int .i64 0, .int .i64 0, .string ⟨#[]⟩, .int .i64 0] 48) = w1 at *
  have f0 := blkf 0 ho
  have f1 := blkf 1 ho
  have f2 := blkf 2 ho
  have f3 := blkf 3 ho
  have d0 := blk (i := 0) ho rfl
  have d1 := blk (i := 1) ho rfl
  have d2 := blk (i := 2) ho rfl
  have d3 := blk (i := 3) ho rfl
  have hne : ¬ b = w.heap.size := by omega
  clear ho
  go_region
  go_wp2
  refine bodyPost_ret (v := .agg #[.int .i64 x1, .int .i64 x2, .string x3, .int .i64 (x4 : Int)]) ?_ rfl ⟨rfl, ?_⟩
  · simp only [results, hres]
    go_simp
  · exact ((((HK.out.drew).setCell (p := ⟨w.heap.size, 0, none⟩) (Nat.le_refl _) _).setCell (p := ⟨w.heap.size, 1, none⟩) (Nat.le_refl _) _).setCell (p := ⟨w.heap.size, 2, none⟩) (Nat.le_refl _) _).setCell (p := ⟨w.heap.size, 3, none⟩) (Nat.le_refl _) _

theorem isT_eq (k : Int) (s : ByteArray) (t : Tk) : isT k s.data.toList t = ((t.kind == k) && ((bs t.text).toList == s.toList)) := by
  unfold isT
  rw [bs_toList, ByteArray.toList_eq, Bool.eq_iff_iff]
  simp
theorem below_box' {w w1 : World} {o : Obj} (hb : Below (w.alloc o).heap.size (w.alloc o) w1) : Below w.heap.size w w1 :=
  ((Below.refl _ _).alloc (Nat.le_refl _) o).trans (hb.mono (by simp))
theorem heap_other {W : World} {b g i : Nat} {u : Value} {x : Option Obj} (h : W.heap[b]? = x) (hne : b ≠ g) : (W.setCell ⟨g, i, none⟩ u).heap[b]? = x := by
  rw [Below.heap_setCell W _ u b hne]; exact h
theorem heap_put {W : World} {b i : Nat} {cs cs' : Array Value} {ty : TypeId} {u : Value} (h : W.heap[b]? = some (.cells cs ty (0, 0))) (hc : cs.setIfInBounds i u = cs') : (W.setCell ⟨b, i, none⟩ u).heap[b]? = some (.cells cs' ty (0, 0)) := by
  rw [heap_setCell_same W b i cs ty u h, hc]
theorem heap_old {W : World} {b : Nat} {o : Obj} {x : Obj} (h : W.heap[b]? = some x) : (W.alloc o).heap[b]? = some x := by
  rw [Below.heap_alloc W o b (lt_block h)]; exact h
set_option maxHeartbeats 1000000 in
theorem sees_calls {b : Nat} {ta : Option Addr} {tn tc : Nat} {T : List Tk} {f : Int × Int} (w : World) {t : Tk} {r : List Tk} (h : PAt b ta tn tc T (t :: r) f w) (k : Int) (s : ByteArray) :
    Calls Try.prog 86 #[.pointer (some ⟨b, 0, none⟩), .int .i64 k, .string s] w fun e w' => e = .returned (.bool (isT k s.data.toList t)) ∧ Below w.heap.size w w' := by
  have HH := here_calls w h
  unfold tkAgg at HH
  have HX : Hid (isT k s.data.toList t = ((t.kind == k) && ((bs t.text).toList == s.toList))) := isT_eq k s t
  generalize isT k s.data.toList t = z at *
  generalize t.kind = x1 at *
  generalize t.num = x2 at *
  generalize bs t.text = x3 at *
  generalize t.pl = x4 at *
  have HC : Hid (Calls Try.prog 38 #[.pointer (some ⟨b, 0, none⟩)] w fun e w' => e = .returned (.agg #[.int .i64 x1, .int .i64 x2, .string x3, .int .i64 (x4 : Int)]) ∧ Below w.heap.size w w') := HH
  clear HH h
  cases hk : (x1 == k) with
  | false =>
    rw [hk] at HX
    go_enter Try.func86, Try.ntmps86
    go_wp2_with fail
    refine HC.out.mono ?_
    rintro e w1 ⟨rfl, hb1⟩
    have HB : Hid (Below w.heap.size w w1) := hb1
    clear hb1
    go_wp2
    go_ret
    exact ⟨ret_bool HX.out.symm, HB.out.alloc HB.out.size _⟩
  | true =>
    rw [hk] at HX
    cases hs : (x3.toList == s.toList) with
    | false =>
      rw [hs] at HX
      go_enter Try.func86, Try.ntmps86
      go_wp2_with fail
      refine HC.out.mono ?_
      rintro e w1 ⟨rfl, hb1⟩
      have HB : Hid (Below w.heap.size w w1) := hb1
      clear hb1
      go_wp2
      go_ret
      exact ⟨ret_bool HX.out.symm, HB.out.alloc HB.out.size _⟩
    | true =>
      rw [hs] at HX
      go_enter Try.func86, Try.ntmps86
      go_wp2_with fail
      refine HC.out.mono ?_
      rintro e w1 ⟨rfl, hb1⟩
      have HB : Hid (Below w.heap.size w w1) := hb1
      clear hb1
      go_wp2
      go_ret
      exact ⟨ret_bool HX.out.symm, HB.out.alloc HB.out.size _⟩
set_option maxHeartbeats 1000000 in
theorem nextP_calls {b : Nat} {ta : Option Addr} {tn tc : Nat} {T : List Tk} {f : Int × Int} (w : World) {t : Tk} {r : List Tk} (h : PAt b ta tn tc T (t :: r) f w) (ht : t.kind ≠ 1) :
    Calls Try.prog 85 #[.pointer (some ⟨b, 0, none⟩)] w fun e w' => e = .returned (tkAgg t) ∧ Kp b w w' ∧ PAt b ta tn tc T r f w' := by
  have hres : Try.f85.results = #[.cell 2 48] := by kernel_rfl
  have HP : Hid (PAt b ta tn tc T (t :: r) f w) := h
  have hk : (t.kind != 1) = true := by simpa using ht
  have HH : Hid (∀ w, PAt b ta tn tc T (t :: r) f w → Calls Try.prog 38 #[.pointer (some ⟨b, 0, none⟩)] w fun e w' => e = .returned (.agg #[.int .i64 t.kind, .int .i64 t.num, .string (bs t.text), .int .i64 (t.pl : Int)]) ∧ Below w.heap.size w w') := fun w h => here_calls w h
  have hlt := h.lt
  have hne : ¬ b = w.heap.size := by omega
  clear h
  have HA : Hid (PAt b ta tn tc T (t :: r) f (w.alloc (.cells #[.int .i64 0, .int .i64 0, .string ⟨#[]⟩, .int .i64 0] 48))) := HP.out.below ((Below.refl _ _).alloc (Nat.le_refl _) _)
  have HT : Hid (∀ k, T.drop k = t :: r → T.drop (k + 1) = r ∧ k + 1 < T.length) := fun k hk => HP.out.more ht hk
  clear ht
  unfold tkAgg
  generalize t.kind = x1 at *
  generalize t.num = x2 at *
  generalize bs t.text = x3 at *
  generalize t.pl = x4 at *
  go_enter Try.func85, Try.ntmps85
  go_wp2_with fail
  refine (HH.out _ HA.out).mono ?_
  rintro e w1 ⟨rfl, hb1⟩
  have HB : Hid (Below w.heap.size w w1) := below_box' hb1
  have ho : w1.heap[w.heap.size]? = some (.cells #[.int .i64 0, .int .i64 0, .string ⟨#[]⟩, .int .i64 0] 48 (0, 0)) := by rw [hb1.block _ (by simp)]; exact heap_alloc_new w _
  have HP1 : Hid (PAt b ta tn tc T (t :: r) f w1) := HA.out.below hb1
  clear hb1 HA
  obtain ⟨k, tb, to, hdr, hkn, hn, hkT, rfl, hlow, hb, -, -, -, -⟩ := HP1.out.cells
  obtain ⟨hd2, hk2⟩ := HT.out k hdr
  have HD : Hid (T.drop (k + 1) = r ∧ k + 1 < T.length) := ⟨hd2, hk2⟩
  have hz1 : w.heap.size < w1.heap.size := lt_block ho
  have c1 : ∀ o, (w1.alloc o).cell? ⟨b, 1, none⟩ = some (.int .i64 (k : Int)) := fun o => blk (heap_old hb) rfl
  have c2 : ∀ o, (w1.alloc o).frozen? ⟨b, 1, none⟩ = false := fun o => blkf 1 (heap_old hb)
  have z0 : ∀ o, (w1.alloc o).cell? ⟨w.heap.size, 0, none⟩ = some (.int .i64 0) := fun o => blk (heap_old ho) rfl
  have z1 : ∀ o, (w1.alloc o).cell? ⟨w.heap.size, 1, none⟩ = some (.int .i64 0) := fun o => blk (heap_old ho) rfl
  have z2 : ∀ o, (w1.alloc o).cell? ⟨w.heap.size, 2, none⟩ = some (.string ⟨#[]⟩) := fun o => blk (heap_old ho) rfl
  have z3 : ∀ o, (w1.alloc o).cell? ⟨w.heap.size, 3, none⟩ = some (.int .i64 0) := fun o => blk (heap_old ho) rfl
  have zf : ∀ o i, (w1.alloc o).frozen? ⟨w.heap.size, i, none⟩ = false := fun o i => blkf i (heap_old ho)
  have hne2 : ¬ b = w1.heap.size := by omega
  have hne3 : ¬ w.heap.size = w1.heap.size := by omega
  have HO : Hid (w1.heap[b]? = some (.cells #[.slice (some ⟨tb, to, none⟩) tn tc, .int .i64 (k : Int), .int .i64 f.1, .int .i64 f.2] 52 (0, 0)) ∧ w.heap.size < w1.heap.size) := ⟨hb, hz1⟩
  clear hb ho hdr hd2 hk2 HH
  go_wp2
  refine bodyPost_ret (v := .agg #[.int .i64 x1, .int .i64 x2, .string x3, .int .i64 (x4 : Int)]) ?_ rfl ⟨rfl, ?_⟩
  · simp only [results, hres]
    go_simp
  · have hk := (((((((Kp.of_below (b := b) HB.out).alloc (.cells #[.int .i64 x1, .int .i64 x2, .string x3, .int .i64 (x4 : Int)] 48)).setCell 1 (.int .i64 ((k : Int) + 1))).setNew (Nat.le_refl _) 0 (.int .i64 x1)).setNew (Nat.le_refl _) 1 (.int .i64 x2)).setNew (Nat.le_refl _) 2 (.string x3)).setNew (Nat.le_refl _) 3 (.int .i64 (x4 : Int)))
    refine ⟨hk, HP.out.kp (k := k + 1) hk HD.out.1 HD.out.2 ?_⟩
    refine heap_other (heap_other (heap_other (heap_other (heap_put (heap_old HO.out.1) ?_) hne) hne) hne) hne
    simp
end Go.Proofs.Ytnnmhmlebffacaa
namespace Go.Proofs.Ytnnmhmlebffacaa
open Go.RowKit Go.Deep

theorem fld48_0 (x y z : Int) (s : ByteArray) (w : World) : (Instr.field 48 (.agg #[.int .i64 x, .int .i64 y, .string s, .int .i64 z]) 0).run Try.prog w = .ok (.int .i64 x) w := by kernel_rfl
theorem fld48_2 (x y z : Int) (s : ByteArray) (w : World) : (Instr.field 48 (.agg #[.int .i64 x, .int .i64 y, .string s, .int .i64 z]) 2).run Try.prog w = .ok (.string s) w := by kernel_rfl
theorem fld48_3 (x y z : Int) (s : ByteArray) (w : World) : (Instr.field 48 (.agg #[.int .i64 x, .int .i64 y, .string s, .int .i64 z]) 3).run Try.prog w = .ok (.int .i64 z) w := by kernel_rfl
set_option maxRecDepth 20000 in
set_option maxHeartbeats 1000000 in
theorem wrong_calls {b : Nat} {ta : Option Addr} {tn tc : Nat} {T : List Tk} {f : Int × Int} (w : World) {t : Tk} {r : List Tk} (h : PAt b ta tn tc T (t :: r) f w) :
    Calls Try.prog 84 #[.pointer (some ⟨b, 0, none⟩)] w fun e w' => e = .returned (.agg #[.int .i64 70, .int .i64 (t.pl : Int)]) ∧ Kp b w w' ∧ PAt b ta tn tc T (t :: r) (70, t.pl) w' := by
  have hres : Try.f84.results = #[.cell 2 27] := by kernel_rfl
  have HP : Hid (PAt b ta tn tc T (t :: r) f w) := h
  have HH : Hid (∀ w, PAt b ta tn tc T (t :: r) f w → Calls Try.prog 38 #[.pointer (some ⟨b, 0, none⟩)] w fun e w' => e = .returned (.agg #[.int .i64 t.kind, .int .i64 t.num, .string (bs t.text), .int .i64 (t.pl : Int)]) ∧ Below w.heap.size w w') := fun w h => here_calls w h
  have hlt := h.lt
  have hne : ¬ b = w.heap.size := by omega
  clear h
  have HA : Hid (PAt b ta tn tc T (t :: r) f (w.alloc (.cells #[.int .i64 0, .int .i64 0] 27))) := HP.out.below ((Below.refl _ _).alloc (Nat.le_refl _) _)
  have hfd := fld48_3
  go_enter Try.func84, Try.ntmps84
  go_wp2_with fail
  refine (HH.out _ HA.out).mono ?_
  rintro e w1 ⟨rfl, hb1⟩
  have HB : Hid (Below w.heap.size w w1) := below_box' hb1
  have ho : w1.heap[w.heap.size]? = some (.cells #[.int .i64 0, .int .i64 0] 27 (0, 0)) := by rw [hb1.block _ (by simp)]; exact heap_alloc_new w _
  have HP1 : Hid (PAt b ta tn tc T (t :: r) f w1) := HA.out.below hb1
  clear hb1 HA
  obtain ⟨k, tb, to, hdr, hkn, hn, hkT, rfl, hlow, hb, -, -, -, -⟩ := HP1.out.cells
  have c1 := blk (i := 2) hb rfl
  have c2 := blk (i := 3) hb rfl
  have cf2 := blkf 2 hb
  have cf3 := blkf 3 hb
  have z0 := blk (i := 0) ho rfl
  have z1 := blk (i := 1) ho rfl
  have zf0 := blkf 0 ho
  have zf1 := blkf 1 ho
  have HO : Hid (w1.heap[b]? = some (.cells #[.slice (some ⟨tb, to, none⟩) tn tc, .int .i64 (k : Int), .int .i64 f.1, .int .i64 f.2] 52 (0, 0)) ∧ T.drop k = t :: r) := ⟨hb, hdr⟩
  generalize f.1 = f1 at *
  generalize f.2 = f2 at *
  clear hb ho hdr HH
  go_wp2
  refine bodyPost_ret (v := .agg #[.int .i64 70, .int .i64 (t.pl : Int)]) ?_ rfl ⟨rfl, ?_⟩
  · simp only [results, hres]
    go_simp
  · have hk := ((((Kp.of_below (b := b) HB.out).setCell 2 (.int .i64 70)).setCell 3 (.int .i64 (t.pl : Int))).setNew (Nat.le_refl _) 0 (.int .i64 70)).setNew (Nat.le_refl _) 1 (.int .i64 (t.pl : Int))
    refine ⟨hk, HP.out.kp (k := k) hk HO.out.2 hkT ?_⟩
    exact heap_other (heap_other (heap_put (heap_put HO.out.1 rfl) rfl) hne) hne
set_option maxRecDepth 20000 in
set_option maxHeartbeats 1000000 in
theorem tooMany_calls {b : Nat} {ta : Option Addr} {tn tc : Nat} {T : List Tk} {f : Int × Int} (w : World) {t : Tk} {r : List Tk} (h : PAt b ta tn tc T (t :: r) f w) :
    Calls Try.prog 39 #[.pointer (some ⟨b, 0, none⟩)] w fun e w' => e = .returned (.tuple #[]) ∧ Kp b w w' ∧ PAt b ta tn tc T (t :: r) (flt [(t.pl : Int)] f) w' := by
  have HP : Hid (PAt b ta tn tc T (t :: r) f w) := h
  have HH : Hid (∀ w, PAt b ta tn tc T (t :: r) f w → Calls Try.prog 38 #[.pointer (some ⟨b, 0, none⟩)] w fun e w' => e = .returned (.agg #[.int .i64 t.kind, .int .i64 t.num, .string (bs t.text), .int .i64 (t.pl : Int)]) ∧ Below w.heap.size w w') := fun w h => here_calls w h
  obtain ⟨k, tb, to, hdr, hkn, hn, hkT, rfl, hlow, hb, -, -, -, -⟩ := h.cells
  have c2 := blk (i := 2) hb rfl
  by_cases h0 : f.1 = 0
  · have HF : Hid (flt [(t.pl : Int)] f = (72, (t.pl : Int))) := by show _ = _; unfold flt; rw [if_pos h0]
    have hf : (f.1 == 0) = true := by rw [beq_iff_eq]; exact h0
    clear hdr h h0 hb
    have hfd := fld48_3
    go_enter Try.func39, Try.ntmps39
    go_wp2_with fail
    refine (HH.out _ HP.out).mono ?_
    rintro e w1 ⟨rfl, hb1⟩
    have HB : Hid (Below w.heap.size w w1) := hb1
    have HP1 : Hid (PAt b (some ⟨tb, to, none⟩) tn tc T (t :: r) f w1) := HP.out.below hb1
    clear hb1 c2 k hkn hkT
    obtain ⟨k, tb', to', hdr, hkn, _, hkT, he, _, hb, -, -, -, -⟩ := HP1.out.cells
    have c3 := blk (i := 2) hb rfl
    have c4 := blk (i := 3) hb rfl
    have cf2 := blkf 2 hb
    have cf3 := blkf 3 hb
    have HO : Hid (w1.heap[b]? = some (.cells #[.slice (some ⟨tb, to, none⟩) tn tc, .int .i64 (k : Int), .int .i64 f.1, .int .i64 f.2] 52 (0, 0)) ∧ T.drop k = t :: r) := ⟨hb, hdr⟩
    clear hb hdr HH he
    go_wp2
    go_end0
    refine ⟨rfl, ?_⟩
    have hk := ((Kp.of_below (b := b) HB.out).setCell 2 (.int .i64 72)).setCell 3 (.int .i64 (t.pl : Int))
    rw [HF.out]
    refine ⟨hk, HP.out.kp (k := k) hk HO.out.2 hkT ?_⟩
    exact heap_put (heap_put HO.out.1 rfl) rfl
  · have HF : Hid (flt [(t.pl : Int)] f = f) := by show _ = _; unfold flt; rw [if_neg h0]
    have hf : (f.1 == 0) = false := by rw [beq_eq_false_iff_ne]; exact h0
    clear hdr h h0 hb
    go_enter Try.func39, Try.ntmps39
    go_wp2
    go_end0
    rw [HF.out]
    exact ⟨rfl, Kp.refl _ _, HP.out⟩
end Go.Proofs.Ytnnmhmlebffacaa
