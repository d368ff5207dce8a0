/-
  The walks of cut and expect where the bytes are too few; of cell and arrows where there are none.
-/
import Derived.Test.YtignpgoicoojiaaDoorRdC
namespace Go.Proofs.YtignpgoicoojiaaDoor
open Go.RowKit

theorem made_bytes (n : Nat) : (madeCells #[.int .u8 0] n).toList = byteVals (List.replicate n 0) := by
  apply List.ext_getElem
  · simp [madeCells, byteVals]
  · intro i h1 h2
    simp [madeCells, byteVals, Nat.mod_one]
/-- What expect does. -/
def ExpC (w : World) (b : Nat) (s : ByteArray) (st : Sr) (u : ByteArray) : Prop :=
  Calls Tryd.prog 43 #[.pointer (some ⟨b, 0, none⟩), .string u] w fun e w' => e = .returned (.tuple #[]) ∧ Rd w' b s (expR s.data.toList u.data.toList st) ∧ w.grownBy w' (some b)

set_option maxHeartbeats 1000000 in
theorem cutBad_calls (b : Nat) (s : ByteArray) (st : Sr) (n : Nat) (w : World) (h : Rd w b s st) (hn : n ≤ 1000) (hb : st.2 = true ∨ s.size - st.1 < n) :
    Calls Tryd.prog 53 #[.pointer (some ⟨b, 0, none⟩), .int .i64 (n : Int)] w fun e w' => ∃ g, e = .returned (.slice (some ⟨g, 0, none⟩) n n) ∧ w'.ownsRow w.heap.size 5 1 (.slice (some ⟨g, 0, none⟩) n n) n (byteVals (List.replicate n 0)) ∧ Rd w' b s (st.1, true) ∧ w.grownBy w' (some b) := by
  have HR : Hid (Rd w b s st) := h
  have hs := h.short
  have hle := h.le
  unfold maxLen at hs
  clear h
  obtain ⟨i0, hi, hz0, hz1, hz2⟩ := info_parts info5
  go_enter Tryd.func53, Tryd.ntmps53
  go_wp2_with (at_make; refine wpList_make_full _ rfl _ _ 42 rfl w.heap.size 5 i0 (.int .u8 0) 1 Tryd.underlying42 hi hz0 hz1 .i64 .i64 _ _ n rfl rfl rfl rfl (by rw [hz2]; omega) (by unfold maxLen; omega) (Nat.le_refl _) ?_)
  intro w3 hown3 hgrow3
  rw [made_bytes] at hown3
  have H3 : Hid (w3.ownsRow w.heap.size 5 1 (.slice (some ⟨w.heap.size, 0, none⟩) n n) n (byteVals (List.replicate n 0)) ∧ Rd w3 b s st ∧ w.grownBy w3 (some b)) :=
    ⟨hown3, HR.out.other hgrow3 (by simp), grown_also (grown_refl _ _) hgrow3⟩
  clear hown3 hgrow3 HR
  have c0 := H3.out.2.1.c0
  have c1 := H3.out.2.1.c1
  have c2 := H3.out.2.1.c2
  have HN : ∀ nq : Nat, Hid ((((w3.drewN nq)).setCell ⟨b, 2, none⟩ (.bool true)).ownsRow w.heap.size 5 1 (.slice (some ⟨w.heap.size, 0, none⟩) n n) n (byteVals (List.replicate n 0)) ∧ Rd ((w3.drewN nq).setCell ⟨b, 2, none⟩ (.bool true)) b s (st.1, true) ∧ w.grownBy ((w3.drewN nq).setCell ⟨b, 2, none⟩ (.bool true)) (some b)) := fun nq => by
    have hr := H3.out.2.1.drewN nq
    refine ⟨own_rd (own_rd H3.out.1 (by decide) H3.out.2.1 (grown_drewN nq)) (by decide) hr (grown_set _ _ _ _), hr.bad, grown_trans (grown_trans H3.out.2.2 (grown_drewN nq)) (grown_set _ _ _ _)⟩
  have HF : ∀ nq : Nat, (w3.drewN nq).frozen? ⟨b, 2, none⟩ = false ∧ (w3.drewN nq).cell? ⟨b, 2, none⟩ = some (.bool st.2) := fun nq => ⟨(H3.out.2.1.drewN nq).fz 2, (H3.out.2.1.drewN nq).c2⟩
  obtain ⟨at0, wrg⟩ := st
  simp only at c1 c2 hb hle HF HN
  cases wrg
  · have hd : decide ((s.size : Int) - (at0 : Int) < (n : Int)) = true := by simp at hb; simp; omega
    clear hb
    go_wp2_with fail
    go_quiet (fail)
    obtain ⟨fz, d2⟩ := HF nq
    have HH := HN nq
    clear HF HN
    generalize w3.drewN nq = wd at *
    go_wp2
    go_ret
    exact ⟨_, rfl, HH.out.1, HH.out.2.1, HH.out.2.2⟩
  · clear hb
    go_wp2_with fail
    go_quiet (fail)
    obtain ⟨fz, d2⟩ := HF nq
    have HH := HN nq
    clear HF HN
    generalize w3.drewN nq = wd at *
    go_wp2
    go_ret
    exact ⟨_, rfl, HH.out.1, HH.out.2.1, HH.out.2.2⟩

set_option maxHeartbeats 1000000 in
theorem expectBad (b : Nat) (s u : ByteArray) (st : Sr) (w : World) (h : Rd w b s st) (hn : u.size ≤ 1000) (hb : st.2 = true ∨ s.size - st.1 < u.size) : ExpC w b s st u := by
  unfold ExpC
  have HE : Hid (expR s.data.toList u.data.toList st = (st.1, true)) := by show _ = _; rw [expR, if_pos (by simpa using hb)]
  have HC : Hid (Calls Tryd.prog 53 #[.pointer (some ⟨b, 0, none⟩), .int .i64 (u.size : Int)] w fun e w' => ∃ g, e = .returned (.slice (some ⟨g, 0, none⟩) u.size u.size) ∧ w'.ownsRow w.heap.size 5 1 (.slice (some ⟨g, 0, none⟩) u.size u.size) u.size (byteVals (List.replicate u.size 0)) ∧ Rd w' b s (st.1, true) ∧ w.grownBy w' (some b)) := cutBad_calls b s st u.size w h hn hb
  clear hb h
  go_enter Tryd.func43, Tryd.ntmps43
  go_wp2_with fail
  refine HC.out.mono ?_
  rintro e w1 ⟨g, rfl, hown, hr1, hg1⟩
  have hconv := owned_text hown
  have HR1 : Hid (Rd w1 b s (st.1, true) ∧ w.grownBy w1 (some b)) := ⟨hr1, hg1⟩
  have HB : Hid (Rd (w1.setCell ⟨b, 2, none⟩ (.bool true)) b s (st.1, true) ∧ w.grownBy (w1.setCell ⟨b, 2, none⟩ (.bool true)) (some b)) := ⟨hr1.bad, grown_trans hg1 (grown_set _ _ _ _)⟩
  have c2 := hr1.c2
  have fz := hr1.fz 2
  simp only at c2
  clear hown hr1 hg1 HC
  generalize (⟨(List.replicate u.size (0 : UInt8)).toArray⟩ : ByteArray) = z at hconv
  by_cases hzu : z = u
  · subst hzu
    go_wp2
    go_end0
    rw [HE.out]
    exact ⟨rfl, HR1.out.1, HR1.out.2⟩
  · have hne : (z.toList == u.toList) = false := by
      rw [beq_eq_false_iff_ne]
      intro e
      exact hzu (byte_ext (by simpa [ByteArray.toList_eq] using e))
    go_wp2
    go_end0
    rw [HE.out]
    exact ⟨rfl, HB.out.1, HB.out.2⟩

theorem info38 : (Tryd.prog.info? 38).map (fun i => (i.zero, i.size, i.bytes)) = some (some (.agg #[.int .i64 0, .int .i64 0, .int .i64 0, .int .i64 0]), 4, 32) := by kernel_rfl
theorem info40 : (Tryd.prog.info? 40).map (fun i => (i.zero, i.size, i.bytes)) = some (some (.agg #[.int .i64 0, .int .i64 0, .int .i64 0, .int .i64 0]), 4, 32) := by kernel_rfl
/-- What cell and arrows do. -/
def QdsC (fn : FuncId) (e : TypeId) (w : World) (b : Nat) (s : ByteArray) (st : Sr) (n : Nat) : Prop :=
  Calls Tryd.prog fn #[.pointer (some ⟨b, 0, none⟩), .int .i64 (n : Int)] w fun r w' => ∃ g, r = .returned (.slice (some ⟨g, 0, none⟩) n n) ∧ w'.ownsRow w.heap.size e 4 (.slice (some ⟨g, 0, none⟩) n n) n (qdVals (qsR s.data.toList n st).1) ∧ Rd w' b s (qsR s.data.toList n st).2 ∧ w.grownBy w' (some b)

set_option maxHeartbeats 1000000 in
theorem cellZero (b : Nat) (s : ByteArray) (st : Sr) (w : World) (h : Rd w b s st) : QdsC 57 38 w b s st 0 := by
  unfold QdsC
  have HR : Hid (Rd w b s st) := h
  clear h
  obtain ⟨i0, hi, hz0, hz1, hz2⟩ := info_parts info38
  go_enter Tryd.func57, Tryd.ntmps57
  go_wp2_with (at_make; refine wpList_make_full _ rfl _ _ 23 rfl w.heap.size 38 i0 (.agg #[.int .i64 0, .int .i64 0, .int .i64 0, .int .i64 0]) 4 Tryd.underlying23 hi hz0 hz1 .i64 .i64 _ _ 0 rfl rfl rfl rfl (by rw [hz2]; omega) (by unfold maxLen; omega) (Nat.le_refl _) ?_)
  intro w3 hown3 hgrow3
  have H3 : Hid (w3.ownsRow w.heap.size 38 4 (.slice (some ⟨w.heap.size, 0, none⟩) 0 0) 0 [] ∧ Rd w3 b s st ∧ w.grownBy w3 (some b)) :=
    ⟨by simpa [madeCells] using hown3, HR.out.other hgrow3 (by simp), grown_also (grown_refl _ _) hgrow3⟩
  clear hown3 hgrow3 HR
  go_wp2
  go_loopw [6, 11] (fun _ i wq => i = .int .i64 0 ∧ wq = w3) (fun _ _ _ => 0)
  case atStart => exact ⟨rfl, rfl⟩
  case round =>
    obtain ⟨rfl, rfl⟩ := hrel
    go_wp2
    go_ret
    exact ⟨_, rfl, H3.out.1, H3.out.2.1, H3.out.2.2⟩

set_option maxHeartbeats 1000000 in
theorem arrowsZero (b : Nat) (s : ByteArray) (st : Sr) (w : World) (h : Rd w b s st) : QdsC 58 40 w b s st 0 := by
  unfold QdsC
  have HR : Hid (Rd w b s st) := h
  clear h
  obtain ⟨i0, hi, hz0, hz1, hz2⟩ := info_parts info40
  go_enter Tryd.func58, Tryd.ntmps58
  go_wp2_with (at_make; refine wpList_make_full _ rfl _ _ 24 rfl w.heap.size 40 i0 (.agg #[.int .i64 0, .int .i64 0, .int .i64 0, .int .i64 0]) 4 Tryd.underlying24 hi hz0 hz1 .i64 .i64 _ _ 0 rfl rfl rfl rfl (by rw [hz2]; omega) (by unfold maxLen; omega) (Nat.le_refl _) ?_)
  intro w3 hown3 hgrow3
  have H3 : Hid (w3.ownsRow w.heap.size 40 4 (.slice (some ⟨w.heap.size, 0, none⟩) 0 0) 0 [] ∧ Rd w3 b s st ∧ w.grownBy w3 (some b)) :=
    ⟨by simpa [madeCells] using hown3, HR.out.other hgrow3 (by simp), grown_also (grown_refl _ _) hgrow3⟩
  clear hown3 hgrow3 HR
  go_wp2
  go_loopw [6, 11] (fun _ i wq => i = .int .i64 0 ∧ wq = w3) (fun _ _ _ => 0)
  case atStart => exact ⟨rfl, rfl⟩
  case round =>
    obtain ⟨rfl, rfl⟩ := hrel
    go_wp2
    go_ret
    exact ⟨_, rfl, H3.out.1, H3.out.2.1, H3.out.2.2⟩
end Go.Proofs.YtignpgoicoojiaaDoor
