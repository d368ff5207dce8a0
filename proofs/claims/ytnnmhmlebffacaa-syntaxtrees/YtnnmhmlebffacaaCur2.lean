/-
  The parser's wrong, tooMany, sign.
-/
import Derived.Test.YtnnmhmlebffacaaCur
namespace Go.Proofs.Ytnnmhmlebffacaa
open Go.RowKit Go.Deep

theorem fld48_0 (x y z : Int) (s : ByteArray) (w : World) : (Instr.field 48 (.agg #[.int .i64 x, .int .i64 y, .string s, .int .i64 z]) 0).run Try.prog w = .ok (.int .i64 x) w := by kernel_rfl
theorem fld48_2 (x y z : Int) (s : ByteArray) (w : World) : (Instr.field 48 (.agg #[.int .i64 x, .int .i64 y, .string s, .int .i64 z]) 2).run Try.prog w = .ok (.string s) w := by kernel_rfl
theorem fld48_3 (x y z : Int) (s : ByteArray) (w : World) : (Instr.field 48 (.agg #[.int .i64 x, .int .i64 y, .string s, .int .i64 z]) 3).run Try.prog w = .ok (.int .i64 z) w := by kernel_rfl
set_option maxRecDepth 20000 in
set_option maxHeartbeats 1000000 in
theorem wrong_calls {b : Nat} {ta : Option Addr} {tn tc : Nat} {T : List Tk} {f : Int × Int} (w : World) {t : Tk} {r : List Tk} (h : PAt b ta tn tc T (t :: r) f w) :
    Calls Try.prog 84 #[.pointer (some ⟨b, 0, none⟩)] w fun e w' => e = .returned (.agg #[.int .i64 70, .int .i64 (t.pl : Int)]) ∧ Kp b w w' ∧ PAt b ta tn tc T (t :: r) (70, t.pl) w' := by
  have hres : Try.f84.results = #[.cell 2 27] := by kernel_rfl
  have HP : Hid (PAt b ta tn tc T (t :: r) f w) := h
  have HH : Hid (∀ w, PAt b ta tn tc T (t :: r) f w → Calls Try.prog 38 #[.pointer (some ⟨b, 0, none⟩)] w fun e w' => e = .returned (.agg #[.int .i64 t.kind, .int .i64 t.num, .string (bs t.text), .int .i64 (t.pl : Int)]) ∧ Below w.heap.size w w') := fun w h => here_calls w h
  have hlt := h.lt
  have hne : ¬ b = w.heap.size := by omega
  clear h
  have HA : Hid (PAt b ta tn tc T (t :: r) f (w.alloc (.cells #[.int .i64 0, .int .i64 0] 27))) := HP.out.below ((Below.refl _ _).alloc (Nat.le_refl _) _)
  have hfd := fld48_3
  go_enter Try.func84, Try.ntmps84
  go_wp2_with fail
  refine (HH.out _ HA.out).mono ?_
  rintro e w1 ⟨rfl, hb1⟩
  have HB : Hid (Below w.heap.size w w1) := below_box' hb1
  have ho : w1.heap[w.heap.size]? = some (.cells #[.int .i64 0, .int .i64 0] 27 (0, 0)) := by rw [hb1.block _ (by simp)]; exact heap_alloc_new w _
  have HP1 : Hid (PAt b ta tn tc T (t :: r) f w1) := HA.out.below hb1
  clear hb1 HA
  obtain ⟨k, tb, to, hdr, hkn, hn, hkT, rfl, hlow, hb, -, -, -, -⟩ := HP1.out.cells
  have c1 := blk (i := 2) hb rfl
  have c2 := blk (i := 3) hb rfl
  have cf2 := blkf 2 hb
  have cf3 := blkf 3 hb
  have z0 := blk (i := 0) ho rfl
  have z1 := blk (i := 1) ho rfl
  have zf0 := blkf 0 ho
  have zf1 := blkf 1 ho
  have HO : Hid (w1.heap[b]? = some (.cells #[.slice (some ⟨tb, to, none⟩) tn tc, .int .i64 (k : Int), .int .i64 f.1, .int .i64 f.2] 52 (0, 0)) ∧ T.drop k = t :: r) := ⟨hb, hdr⟩
  generalize f.1 = f1 at *
  generalize f.2 = f2 at *
  clear hb ho hdr HH
  go_wp2
  refine bodyPost_ret (v := .agg #[.int .i64 70, .int .i64 (t.pl : Int)]) ?_ rfl ⟨rfl, ?_⟩
  · simp only [results, hres]
    go_simp
  · have hk := ((((Kp.of_below (b := b) HB.out).setCell 2 (.int .i64 70)).setCell 3 (.int .i64 (t.pl : Int))).setNew (Nat.le_refl _) 0 (.int .i64 70)).setNew (Nat.le_refl _) 1 (.int .i64 (t.pl : Int))
    refine ⟨hk, HP.out.kp (k := k) hk HO.out.2 hkT ?_⟩
    exact heap_other (heap_other (heap_put (heap_put HO.out.1 rfl) rfl) hne) hne
set_option maxRecDepth 20000 in
set_option maxHeartbeats 1000000 in
theorem tooMany_calls {b : Nat} {ta : Option Addr} {tn tc : Nat} {T : List Tk} {f : Int × Int} (w : World) {t : Tk} {r : List Tk} (h : PAt b ta tn tc T (t :: r) f w) :
    Calls Try.prog 39 #[.pointer (some ⟨b, 0, none⟩)] w fun e w' => e = .returned (.tuple #[]) ∧ Kp b w w' ∧ PAt b ta tn tc T (t :: r) (flt [(t.pl : Int)] f) w' := by
  have HP : Hid (PAt b ta tn tc T (t :: r) f w) := h
  have HH : Hid (∀ w, PAt b ta tn tc T (t :: r) f w → Calls Try.prog 38 #[.pointer (some ⟨b, 0, none⟩)] w fun e w' => e = .returned (.agg #[.int .i64 t.kind, .int .i64 t.num, .string (bs t.text), .int .i64 (t.pl : Int)]) ∧ Below w.heap.size w w') := fun w h => here_calls w h
  obtain ⟨k, tb, to, hdr, hkn, hn, hkT, rfl, hlow, hb, -, -, -, -⟩ := h.cells
  have c2 := blk (i := 2) hb rfl
  by_cases h0 : f.1 = 0
  · have HF : Hid (flt [(t.pl : Int)] f = (72, (t.pl : Int))) := by show _ = _; unfold flt; rw [if_pos h0]
    have hf : (f.1 == 0) = true := by rw [beq_iff_eq]; exact h0
    clear hdr h h0 hb
    have hfd := fld48_3
    go_enter Try.func39, Try.ntmps39
    go_wp2_with fail
    refine (HH.out _ HP.out).mono ?_
    rintro e w1 ⟨rfl, hb1⟩
    have HB : Hid (Below w.heap.size w w1) := hb1
    have HP1 : Hid (PAt b (some ⟨tb, to, none⟩) tn tc T (t :: r) f w1) := HP.out.below hb1
    clear hb1 c2 k hkn hkT
    obtain ⟨k, tb', to', hdr, hkn, _, hkT, he, _, hb, -, -, -, -⟩ := HP1.out.cells
    have c3 := blk (i := 2) hb rfl
    have c4 := blk (i := 3) hb rfl
    have cf2 := blkf 2 hb
    have cf3 := blkf 3 hb
    have HO : Hid (w1.heap[b]? = some (.cells #[.slice (some ⟨tb, to, none⟩) tn tc, .int .i64 (k : Int), .int .i64 f.1, .int .i64 f.2] 52 (0, 0)) ∧ T.drop k = t :: r) := ⟨hb, hdr⟩
    clear hb hdr HH he
    go_wp2
    go_end0
    refine ⟨rfl, ?_⟩
    have hk := ((Kp.of_below (b := b) HB.out).setCell 2 (.int .i64 72)).setCell 3 (.int .i64 (t.pl : Int))
    rw [HF.out]
    refine ⟨hk, HP.out.kp (k := k) hk HO.out.2 hkT ?_⟩
    exact heap_put (heap_put HO.out.1 rfl) rfl
  · have HF : Hid (flt [(t.pl : Int)] f = f) := by show _ = _; unfold flt; rw [if_neg h0]
    have hf : (f.1 == 0) = false := by rw [beq_eq_false_iff_ne]; exact h0
    clear hdr h h0 hb
    go_enter Try.func39, Try.ntmps39
    go_wp2
    go_end0
    rw [HF.out]
    exact ⟨rfl, Kp.refl _ _, HP.out⟩
end Go.Proofs.Ytnnmhmlebffacaa
