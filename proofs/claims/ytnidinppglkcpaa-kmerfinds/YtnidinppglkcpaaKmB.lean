/-
  New.
-/
import Derived.Test.YtnidinppglkcpaaKmA
namespace Go.Proofs.Ytnidinppglkcpaa
open Go.RowKit Go.Maps

theorem none_calls (w : World) : Calls Try.prog 21 #[] w fun e w' => ∃ mb, e = .returned (.agg #[.map (some mb), .int .i64 0]) ∧ MpF w' w.heap.size mb [] (fun _ => .slice none 0 0) ∧ w.heap.size ≤ mb ∧ Below w.heap.size w w' := by
  have hmk : ∀ W : World, (Instr.makeMap 34 none).run Try.prog W = .ok (.map (some W.heap.size)) (W.alloc (.map #[] 0)) := fun _ => rfl
  go_enter Try.func21, Try.ntmps21
  go_wp2
  try simp only [Exit.inBlock, Exit.then]
  refine bodyPost_ret (results_cell_row rfl _ _ w.heap.size 36 #[.map (some (w.heap.size + 1)), .int .i64 0] (0, 0) _ rfl (heap_alloc2_old w _ _) Try.underlying36 rfl (by kernel_rfl)) rfl ?_
  refine ⟨w.heap.size + 1, rfl, ?_, Nat.le_succ _, ((Below.refl _ w).alloc (Nat.le_refl _) _).alloc (by simp) _⟩
  have := MpF.made (w.alloc (.cells #[.map (some (w.heap.size + 1)), .int .i64 0] 36)) w.heap.size
  simpa using this
theorem occ_take (k : Nat) (refs : List Wd) (j : Nat) (h : j < refs.length) : occ k 0 (refs.take (j + 1)) = occ k 0 (refs.take j) ++ occ1 k j (refs.getD j []) := by
  rw [List.take_succ_eq_append_getElem h, occ_snoc]
  simp [List.getD, List.getElem?_eq_getElem h]
  congr 1
  omega
def NewPost (k : Int) (refs : List Wd) (w : World) (e : Ending) (w' : World) : Prop :=
  Below w.heap.size w w' ∧ ((refB k refs ≠ 0 ∧ e = .returned (.tuple #[.pointer none, .int .i64 (refB k refs)])) ∨
    (refB k refs = 0 ∧ ∃ x mb f, e = .returned (.tuple #[.pointer (some ⟨x, 0, none⟩), .int .i64 0]) ∧ IxAt w' w.heap.size x mb k (occ k.toNat 0 refs) f))
theorem occ_len_bd {k : Int} {refs : List Wd} (h : refB k refs = 0) (r : Nat) : (occ k.toNat r refs).length ≤ 1048576 := by
  have := ref_ok h
  have := occ_len_le k.toNat (by omega) refs r
  omega
set_option maxRecDepth 10000 in
set_option maxHeartbeats 1000000 in
theorem new_calls (k : Int) (refs : List Wd) (ao : Option Addr) (n c : Nat) (w : World) (h : WdsAt w ao n refs) (hb : ∀ s ∈ refs, s.length ≤ maxLen) :
    Calls Try.prog 9 #[.int .i64 k, .slice ao n c] w (NewPost k refs w) := by
  have hr := refused_calls k refs ao n c w h hb
  have hl := h.length
  have HW : Hid (WdsAt w ao n refs) := h
  have HL : Hid (refs.length = n) := hl
  clear h hb hl
  obtain ⟨E, hE⟩ : ∃ E, refB k refs = E := ⟨_, rfl⟩
  have HE : Hid (refB k refs = E) := hE
  rw [hE] at hr
  clear hE
  by_cases h0 : E = 0
  · subst h0
    have hok := ref_ok HE.out
    have HO : Hid (1 ≤ k ∧ k ≤ 16 ∧ refs.length ≤ 64 ∧ (∀ s ∈ refs, s.length ≤ 65536) ∧ total refs ≤ 1048576) := hok
    obtain ⟨kn, hkn⟩ : ∃ kn : Nat, k = kn := ⟨k.toNat, by omega⟩
    subst hkn
    have hmk : ∀ W : World, (Instr.makeMap 34 none).run Try.prog W = .ok (.map (some W.heap.size)) (W.alloc (.map #[] 0)) := fun _ => rfl
    have HK : Hid (1 ≤ kn ∧ kn ≤ 16) := by show _ ∧ _; omega
    clear hok
    go_enter Try.func9, Try.ntmps9
    go_wp2_with (first
      | (go_at_call 20; refine hr.mono ?_; rintro e w1 ⟨rfl, rfl⟩)
      | (go_at_call 21; refine (none_calls _).mono ?_; rintro e w2 ⟨mb, rfl, hm2, hmb, hb2⟩)
      | go_in)
    have HX : Hid (IxAt (w2.alloc (.cells #[.map (some mb), .int .i64 0, .int .i64 kn] 38)) w1.heap.size w2.heap.size mb kn [] (fun _ => .slice none 0 0) ∧ Below w1.heap.size w1 (w2.alloc (.cells #[.map (some mb), .int .i64 0, .int .i64 kn] 38))) :=
      ⟨⟨heap_alloc_new _ _, hm2.below (below_new _)⟩, hb2.alloc hb2.size _⟩
    have HS : Hid (w1.heap.size ≤ w2.heap.size ∧ w1.heap.size ≤ mb) := ⟨hb2.size, hmb⟩
    clear hm2 hmb hb2 hmk hr
    go_wp2_with fail
    go_loopg [22] n (fun g i wr => ∃ (j : Nat) (f' : Wd → Value), j + g = n ∧ i = .int .i64 j ∧ IxAt wr w1.heap.size w2.heap.size mb kn (occ kn 0 (refs.take j)) f' ∧ Below w1.heap.size w1 wr)
    case atStart => exact ⟨0, _, Nat.zero_add _, rfl, HX.out.1, HX.out.2⟩
    case round =>
      obtain ⟨j, f', hj, rfl, hix, hbel⟩ := hrel
      have HR : Hid (IxAt wr w1.heap.size w2.heap.size mb kn (occ kn 0 (refs.take j)) f' ∧ Below w1.heap.size w1 wr) := ⟨hix, hbel⟩
      clear hix hbel HX
      have hN : n ≤ 64 := by have := HL.out; have := HO.out.2.2.1; omega
      by_cases hlt : j < n
      · have hdlt : decide ((j : Int) < (n : Int)) = true := decide_eq_true (by omega)
        obtain ⟨b, off, rfl, hcs⟩ := (HW.out.below HR.out.2).cells (by omega)
        have hc1 := hcs j hlt
        clear hcs
        have HT : Hid (occ kn 0 (refs.take (j + 1)) = occ kn 0 (refs.take j) ++ occ1 kn j (refs.getD j [])) := occ_take kn refs j (by have := HL.out; omega)
        have HM : Hid ((refs.getD j []).length ≤ 65536) := HO.out.2.2.2.1 _ (by rw [List.getD, List.getElem?_eq_getElem (by have := HL.out; omega)]; exact List.getElem_mem _)
        have HB : Hid ((occ kn 0 (refs.take j)).length ≤ 1048576) := by
          show _ ≤ _
          have h1 := occ_len_le kn HK.out.1 (refs.take j) 0
          have h2 : total (refs.take j) + total (refs.drop j) = total refs := by
            have := List.take_append_drop j refs
            rw [← congrArg total this]
            simp only [total, List.map_append, List.sum_append]
          have := HO.out.2.2.2.2
          omega
        generalize refs.getD j [] = s at *
        have hadd := addAll_calls HR.out.1 HS.out.1 HS.out.2 HR.out.2.size kn j HK.out.1 HK.out.2 s HM.out HB.out
        go_wp2_with (first
          | (go_at_call 22; refine hadd.mono ?_; rintro e w' ⟨rfl, f2, hix2, hb2⟩)
          | go_in)
        have HY : Hid (IxAt w' w1.heap.size w2.heap.size mb kn (occ kn 0 (refs.take (j + 1))) f2 ∧ Below w1.heap.size w1 w') := ⟨by rw [HT.out]; exact hix2, HR.out.2.trans hb2⟩
        clear hix2 hb2 hadd
        go_wp2
        go_roundg (gk - 1)
        case rel => exact ⟨j + 1, f2, by omega, by go_num, HY.out.1, HY.out.2⟩
        case measure => omega
      · have hdlt : decide ((j : Int) < (n : Int)) = false := decide_eq_false (by omega)
        have HJ : Hid (refs.take j = refs) := by show _ = _; exact List.take_of_length_le (by have := HL.out; omega)
        go_wp2
        go_ret2
        refine ⟨HR.out.2, .inr ⟨HE.out, _, mb, f', rfl, ?_⟩⟩
        have := HR.out.1
        rw [HJ.out] at this
        simpa using this
  · have HZ : Hid (E ≠ 0) := h0
    have hd : (E != 0) = true := by simpa using h0
    clear h0
    go_enter Try.func9, Try.ntmps9
    go_wp2_with (first
      | (go_at_call 20; refine hr.mono ?_; rintro e w1 ⟨rfl, rfl⟩)
      | go_in)
    go_ret2
    exact ⟨Below.refl _ _, .inl ⟨by rw [HE.out]; exact HZ.out, by rw [HE.out]; rfl⟩⟩

end Go.Proofs.Ytnidinppglkcpaa
