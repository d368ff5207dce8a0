/-
  The walk of the document's own Scan.
-/
import Derived.Test.YtjhbofnfaidhfaaNext
import Derived.Test.YtjhbofnfaidhfaaScan
namespace Go.Proofs.Ytjhbofnfaidhfaa
open Go.RowKit

set_option maxRecDepth 20000 in
set_option maxHeartbeats 4000000 in
theorem refScan_calls (s : ByteArray) (w : World) :
    Calls Try.prog 10 #[.string s] w fun e w' => ScanPost (scanB s.data.toList) w e w' := by
  by_cases hlen : 4000 < s.size
  · have HE : Hid (ScanPost (scanB s.data.toList) w (.returned (.tuple #[.slice none 0 0, .int .i64 0, .int .i64 2])) w) := scan_none (p := 0) (by unfold scanB; rw [if_pos (by rw [size_toList]; exact hlen)]) (Below.refl _ _)
    have hd : decide ((4000 : Int) < (s.size : Int)) = true := by simp; omega
    go_enter Try.func10, Try.ntmps10
    go_wp2
    go_ret3
    exact HE.out
  have hd : decide ((4000 : Int) < (s.size : Int)) = false := by simp; omega
  have HA : Hid (scanB s.data.toList = finB s.size (tokB (skipB s.data.toList) (s.data.toList.drop (skipB s.data.toList)))) := by
    show _ = _
    unfold scanB; rw [if_neg (by rw [size_toList]; exact hlen), size_toList]
  have hk0 : skipB s.data.toList ≤ s.size := by rw [← size_toList]; exact skipB_le _
  obtain ⟨i0, hi, hz0, hz1, hz2⟩ := info_parts info28
  have HB0 : Hid (∀ w, Calls Try.prog 22 #[.string s, .int .i64 0] w fun e w' => e = .returned (.int .i64 (skipB s.data.toList : Int)) ∧ w = w') := fun w => by
    have h := skipped_calls s 0 w (by omega) (Nat.zero_le _)
    rw [List.drop_zero, Nat.zero_add] at h
    exact h.mono fun e w' h => ⟨h.1, h.2.symm⟩
  go_enter Try.func10, Try.ntmps10
  go_wp2_with (go_at_call 22; refine (HB0.out _).mono ?_; rintro e w0 ⟨rfl, rfl⟩)
  clear HB0
  go_loopw [5, 6] (fun v at_ wr => ∃ (p : Nat) (l : List Tk), p ≤ s.size ∧ at_ = .int .i64 p ∧ l.length ≤ p ∧ Hid (addT l (tokB p (s.data.toList.drop p)) = tokB (skipB s.data.toList) (s.data.toList.drop (skipB s.data.toList))) ∧ wr.ownsRow w.heap.size 28 4 v l.length (rowCells l) ∧ Below w.heap.size w wr) (fun _ at_ _ => s.size - (intOf at_).toNat)
  case atStart => exact ⟨skipB s.data.toList, [], hk0, rfl, by simp, by simp [addT, Hid], World.ownsRow_nil _ _ _ _, Below.refl _ _⟩
  case round =>
    obtain ⟨p, l, hp0, rfl, hll, HT, hown, hbw⟩ := hrel
    obtain ⟨ao, cap, rfl⟩ := owned_shape hown
    have HO : Hid (wr.ownsRow w.heap.size 28 4 (.slice ao l.length cap) l.length (rowCells l)) := hown
    have HB : Hid (Below w.heap.size w wr) := hbw
    clear hown hbw
    by_cases hp : p < s.size
    · have hdk : decide ((p : Int) < (s.size : Int)) = true := by simp; omega
      have hne : s.data.toList.drop p ≠ [] := fun e => by
        have := congrArg List.length e
        rw [List.length_drop, size_toList] at this
        simp at this; omega
      have HF : Hid (∀ w, Calls Try.prog 23 #[.string s, .int .i64 (p : Int)] w fun e w' => NextPost (s.data.toList.drop p) p w e w') := fun w => next_calls s p w (by omega) hp
      by_cases herr : errB (s.data.toList.drop p) = 0
      · have hn1 := lenB_pos hne
        have hn2 := lenB_le hne herr
        rw [List.length_drop, size_toList] at hn2
        have HS : Hid (addT (l ++ [tkB (s.data.toList.drop p) p]) (tokB (p + lenB (s.data.toList.drop p) + skipB (s.data.toList.drop (p + lenB (s.data.toList.drop p)))) (s.data.toList.drop (p + lenB (s.data.toList.drop p) + skipB (s.data.toList.drop (p + lenB (s.data.toList.drop p)))))) = tokB (skipB s.data.toList) (s.data.toList.drop (skipB s.data.toList))) := by
          show _ = _
          rw [← HT.out, tokB_step l hne herr, List.drop_drop, List.drop_drop, ← Nat.add_assoc]
        have hsk : skipB (s.data.toList.drop (p + lenB (s.data.toList.drop p))) ≤ s.size - (p + lenB (s.data.toList.drop p)) := by
          have := skipB_le (s.data.toList.drop (p + lenB (s.data.toList.drop p)))
          rw [List.length_drop, size_toList] at this
          exact this
        have HN : Hid (∀ w, Calls Try.prog 22 #[.string s, .int .i64 ((p + lenB (s.data.toList.drop p) : Nat) : Int)] w fun e w' => e = .returned (.int .i64 ((p + lenB (s.data.toList.drop p) + skipB (s.data.toList.drop (p + lenB (s.data.toList.drop p))) : Nat) : Int)) ∧ w' = w) := fun w => skipped_calls s _ w (by omega) (by omega)
        have HF2 : Hid (∀ w, Calls Try.prog 23 #[.string s, .int .i64 (p : Int)] w fun e w' => e = .returned (.tuple #[.agg #[.int .i64 (kindB (s.data.toList.drop p)), .int .i64 (numB (s.data.toList.drop p) : Int), .string (bs (textB (s.data.toList.drop p))), .int .i64 (p : Int)], .int .i64 ((p + lenB (s.data.toList.drop p) : Nat) : Int), .int .i64 0]) ∧ Below w.heap.size w w') := fun w => (HF.out w).mono fun e w' ⟨k, n, x, y, b, he, hz, hb⟩ => by
          obtain ⟨rfl, rfl, rfl, rfl, rfl⟩ := hz herr
          rw [herr] at he
          exact ⟨he, hb⟩
        have HNW : Hid (∀ (W : World) (o : Obj) (i : Nat) (u : Value), (tkCells (tkB (s.data.toList.drop p) p))[i]? = some u → ((W.alloc o).alloc (.cells #[.int .i64 (kindB (s.data.toList.drop p)), .int .i64 (numB (s.data.toList.drop p) : Int), .string (bs (textB (s.data.toList.drop p))), .int .i64 (p : Int)] 28)).cell? ((⟨W.heap.size + 1, 0, none⟩ : Addr).add i) = some u) := fun W o i u hu => cell_tk_new2 W o (tkB (s.data.toList.drop p) p) i u hu
        clear herr hne HT HF
        generalize tkB (s.data.toList.drop p) p = tk at *
        generalize skipB (s.data.toList.drop (p + lenB (s.data.toList.drop p))) = k at *
        generalize lenB (s.data.toList.drop p) = n at *
        generalize kindB (s.data.toList.drop p) = kd at *
        generalize numB (s.data.toList.drop p) = nm at *
        generalize textB (s.data.toList.drop p) = tx at *
        obtain ⟨q, hq⟩ : ∃ q, q = p + n := ⟨_, rfl⟩
        rw [← hq] at HN HF2 HS hsk
        have hqs : q ≤ s.size := by omega
        have hpq : p + 1 ≤ q := by omega
        clear hq hn1 hn2
        go_wp2_with fail
        refine (HF2.out _).mono ?_
        rintro e w1 ⟨rfl, hb1⟩
        have HO1 : Hid (w1.ownsRow w.heap.size 28 4 (.slice ao l.length cap) l.length (rowCells l)) := owned_below HO.out hb1
        have HB1 : Hid (Below w.heap.size w w1) := HB.out.trans (hb1.mono HB.out.size)
        have hsz1 := HB1.out.size
        clear hb1 HF2 HO HB
        go_wp2_with (at_builtin; go_loud (refine wpList_append_own _ rfl _ _ 22 rfl w.heap.size 28 i0 (.agg #[.int .i64 0, .int .i64 0, .string ByteArray.empty, .int .i64 0]) 4 40 Try.underlying22 hi hz0 hz1 hz2 rfl (by decide) (.slice ao l.length cap) _ _ rfl ((HO1.out.alloc _).alloc _) ⟨_, 0, none⟩ 1 1 (tkCells tk) rfl rfl (HNW.out _ _) (tk_oneCell _) (by unfold maxLen; omega) (by omega) (by simp; omega) ?_); intro v' w3 hown' hgrow3 hnil3)
        have HO3 : Hid (w3.ownsRow w.heap.size 28 4 v' (l ++ [tk]).length (rowCells (l ++ [tk]))) := by
          show World.ownsRow _ _ _ _ _ _ _
          rw [rowCells_snoc, List.length_append]; exact hown'
        have HB3 : Hid (Below w.heap.size w w3) := HB1.out.trans (below_append2 HO1.out hsz1 hgrow3)
        clear hown' hgrow3 hnil3 HO1 HB1 HNW
        have hlen2 : (l ++ [tk]).length ≤ q + k := by simp; omega
        generalize l ++ [tk] = l2 at *
        go_wp2_with (go_at_call 22; refine (HN.out _).mono ?_; rintro e w4 ⟨rfl, rfl⟩)
        go_roundw
        case rel => exact ⟨q + k, l2, by omega, rfl, hlen2, HS.out, HO3.out, HB3.out⟩
        case measure => simp [intOf]; omega
      · have HE : Hid (scanB s.data.toList = ([], p, errB (s.data.toList.drop p))) := by
          show _ = _
          rw [HA.out, ← HT.out, tokB_err hne herr]
          unfold finB addT
          rw [if_neg herr]
        have hez : (errB (s.data.toList.drop p) != 0) = true := by rw [bne_iff_ne]; exact herr
        clear herr hne HT HA HO
        go_wp2_with fail
        refine (HF.out _).mono ?_
        rintro e w1 ⟨k, n, x, y, b, rfl, _, hb1⟩
        generalize errB (s.data.toList.drop p) = z at *
        have HB1 : Hid (Below w.heap.size w w1) := HB.out.trans (hb1.mono HB.out.size)
        clear hb1 HF HB
        go_wp2
        go_ret3
        exact scan_none HE.out (HB1.out.alloc HB1.out.size _)
    · have hdk : decide ((p : Int) < (s.size : Int)) = false := by simp; omega
      have HE : Hid (scanB s.data.toList = (l ++ [endTk s.size], 0, 0)) := by
        show _ = _
        rw [HA.out, ← HT.out, List.drop_eq_nil_of_le (by rw [size_toList]; omega), tokB_nil]
        unfold finB addT
        rw [if_pos rfl]
        simp
      have hwz := HB.out.size
      clear HA HT
      go_wp2_with (at_builtin; go_loud (refine wpList_append_own _ rfl _ _ 22 rfl w.heap.size 28 i0 (.agg #[.int .i64 0, .int .i64 0, .string ByteArray.empty, .int .i64 0]) 4 40 Try.underlying22 hi hz0 hz1 hz2 rfl (by decide) (.slice ao l.length cap) _ _ rfl (HO.out.alloc _) ⟨_, 0, none⟩ 1 1 (tkCells (endTk s.size)) rfl rfl (cell_tk_new _ (endTk s.size)) (tk_oneCell _) (by unfold maxLen; omega) (by omega) (by simp; omega) ?_); intro v' w3 hown' hgrow3 hnil3)
      go_ret3
      rw [HE.out]
      refine ⟨v', rfl, ?_, HB.out.trans (below_append HO.out hwz hgrow3)⟩
      rw [rowCells_snoc, List.length_append]; exact hown'
end Go.Proofs.Ytjhbofnfaidhfaa
