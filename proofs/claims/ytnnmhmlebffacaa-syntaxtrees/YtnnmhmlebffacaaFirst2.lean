/-
  The walks of token, named, sign, text, first.
-/
import Derived.Test.YtnnmhmlebffacaaFirst
import Derived.Test.YtnnmhmlebffacaaCut
namespace Go.Proofs.Ytnnmhmlebffacaa
open Go.RowKit

theorem clone_calls (s : ByteArray) (w : World) (hs : s.size ≤ 4000) :
    Calls Try.prog 92 #[.string s] w fun e w' => e = .returned (.string s) ∧ Below w.heap.size w w' := by
  have HC : Hid (∀ w, Calls Try.prog 96 #[.string s] w fun e w' => e = .returned (.string s) ∧ Below w.heap.size w w') := fun w => Try.stringslite_Clone s w (by omega)
  clear hs
  go_enter Try.func92, Try.ntmps92
  go_wp2_with (go_at_call 96; refine (HC.out _).mono ?_; rintro e w1 ⟨rfl, hb⟩)
  go_ret
  exact ⟨rfl, hb⟩
theorem token_calls (k : Int) (s : ByteArray) (w : World) (hs : s.size ≤ 4000) :
    Calls Try.prog 80 #[.int .i64 k, .string s] w fun e w' => e = .returned (.agg #[.int .i64 k, .int .i64 0, .string s, .int .i64 0]) ∧ Below w.heap.size w w' := by
  have hres : Try.f80.results = #[.cell 4 48] := by kernel_rfl
  have HC : Hid (∀ w, Calls Try.prog 92 #[.string s] w fun e w' => e = .returned (.string s) ∧ Below w.heap.size w w') := fun w => clone_calls s w hs
  clear hs
  go_enter Try.func80, Try.ntmps80
  go_wp2_with fail
  refine (HC.out _).mono ?_
  rintro e w1 ⟨rfl, hb1⟩
  have hans : w1.heap[w.heap.size]? = some (.cells zero4 48 (0, 0)) := by rw [hb1.block _ (by simp)]; exact heap_alloc_new w _
  have HL : Hid (Below w.heap.size w w1) := below_box hb1
  obtain ⟨z0, z1, z2, z3, zf⟩ := block4 hans
  clear hb1 HC hans
  go_wp2
  refine bodyPost_ret (v := .agg #[.int .i64 k, .int .i64 0, .string s, .int .i64 0]) ?_ rfl ⟨rfl, ?_⟩
  · simp only [results, hres]
    go_simp
  · exact below4 HL.out (Nat.le_refl _) _ _ _ _
def signA (s : List UInt8) : Int × Int × List UInt8 × Nat × Int := (6, 0, s, s.length, 0)
theorem sign_calls (s : ByteArray) (w : World) (hs : s.size ≤ 4000) :
    Calls Try.prog 60 #[.string s] w fun e w' => TokPost (signA s.data.toList) w e w' := by
  have hres : Try.f60.results = #[.cell 2 48, .tmp 3, .tmp 4] := by kernel_rfl
  have HC : Hid (∀ k w, Calls Try.prog 80 #[.int .i64 k, .string s] w fun e w' => e = .returned (.agg #[.int .i64 k, .int .i64 0, .string s, .int .i64 0]) ∧ Below w.heap.size w w') := fun k w => token_calls k s w hs
  have HE : Hid (signA s.data.toList = (6, 0, s.data.toList, s.size, 0)) := by
    show _ = _
    unfold signA; rw [size_toList]
  clear hs
  go_enter Try.func60, Try.ntmps60
  go_wp2_with fail
  refine (HC.out _ _).mono ?_
  rintro e w1 ⟨rfl, hb1⟩
  have hans : w1.heap[w.heap.size]? = some (.cells zero4 48 (0, 0)) := by rw [hb1.block _ (by simp)]; exact heap_alloc_new w _
  have HL : Hid (Below w.heap.size w w1) := below_box hb1
  obtain ⟨z0, z1, z2, z3, zf⟩ := block4 hans
  clear hb1 HC hans
  go_wp2
  refine bodyPost_ret (v := .tuple #[.agg #[.int .i64 6, .int .i64 0, .string s, .int .i64 0], .int .i64 s.size, .int .i64 0]) ?_ rfl ?_
  · simp only [results, hres]
    go_simp
  · have h := ret_tok HE.out (below4 HL.out (Nat.le_refl _) (.int .i64 6) (.int .i64 0) (.string s) (.int .i64 0))
    rw [bs_of] at h
    exact h
def namA (s : List UInt8) : Int × Int × List UInt8 × Nat × Int :=
  if wordB s then (4, 0, s, s.length, 0) else if nameB s then (3, 0, s, s.length, 0) else (0, 0, [], 0, 62)
set_option maxHeartbeats 1000000 in
theorem named_calls (s : ByteArray) (w : World) (hs : s.size ≤ 4000) :
    Calls Try.prog 58 #[.string s] w fun e w' => TokPost (namA s.data.toList) w e w' := by
  have hres : Try.f58.results = #[.cell 2 48, .tmp 3, .tmp 4] := by kernel_rfl
  have HC : Hid (∀ k w, Calls Try.prog 80 #[.int .i64 k, .string s] w fun e w' => e = .returned (.agg #[.int .i64 k, .int .i64 0, .string s, .int .i64 0]) ∧ Below w.heap.size w w') := fun k w => token_calls k s w hs
  clear hs
  cases hw : wordB s.data.toList with
  | true =>
    have HW : Hid (∀ w, Calls Try.prog 77 #[.string s] w fun e w' => e = .returned (.bool true) ∧ w' = w) := fun w => by
      have h := isWord_calls s w
      rw [hw] at h; exact h
    have HE : Hid (namA s.data.toList = (4, 0, s.data.toList, s.size, 0)) := by
      show _ = _
      unfold namA; rw [size_toList, if_pos hw]
    clear hw
    go_enter Try.func58, Try.ntmps58
    go_wp2_with (go_at_call 77; refine (HW.out _).mono ?_; rintro e w' ⟨rfl, rfl⟩)
    refine (HC.out _ _).mono ?_
    rintro e w1 ⟨rfl, hb1⟩
    have hans : w1.heap[w.heap.size]? = some (.cells zero4 48 (0, 0)) := by rw [hb1.block _ (by simp)]; exact heap_alloc_new w _
    have HL : Hid (Below w.heap.size w w1) := below_box hb1
    obtain ⟨z0, z1, z2, z3, zf⟩ := block4 hans
    clear hb1 HC hans
    go_wp2
    refine bodyPost_ret (v := .tuple #[.agg #[.int .i64 4, .int .i64 0, .string s, .int .i64 0], .int .i64 s.size, .int .i64 0]) ?_ rfl ?_
    · simp only [results, hres]
      go_simp
    · have h := ret_tok HE.out (below4 HL.out (Nat.le_refl _) (.int .i64 4) (.int .i64 0) (.string s) (.int .i64 0))
      rw [bs_of] at h
      exact h
  | false =>
    have HW : Hid (∀ w, Calls Try.prog 77 #[.string s] w fun e w' => e = .returned (.bool false) ∧ w' = w) := fun w => by
      have h := isWord_calls s w
      rw [hw] at h; exact h
    cases hn : nameB s.data.toList with
    | true =>
      have HN : Hid (∀ w, Calls Try.prog 50 #[.string s] w fun e w' => e = .returned (.bool true) ∧ Below w.heap.size w w') := fun w => by
        have h := isName_calls s w
        rw [hn] at h; exact h
      have HE : Hid (namA s.data.toList = (3, 0, s.data.toList, s.size, 0)) := by
        show _ = _
        unfold namA; rw [size_toList, if_neg (by rw [hw]; decide), if_pos hn]
      clear hw hn
      go_enter Try.func58, Try.ntmps58
      go_wp2_with (first
        | (go_at_call 77; refine (HW.out _).mono ?_; rintro e w' ⟨rfl, rfl⟩)
        | (go_at_call 50; refine (HN.out _).mono ?_; rintro e w1 ⟨rfl, hb0⟩))
      refine (HC.out _ _).mono ?_
      rintro e w2 ⟨rfl, hb1⟩
      have hb2 := hb0.trans (hb1.mono hb0.size)
      have hans : w2.heap[w.heap.size]? = some (.cells zero4 48 (0, 0)) := by rw [hb2.block _ (by simp)]; exact heap_alloc_new w _
      have HL : Hid (Below w.heap.size w w2) := below_box hb2
      obtain ⟨z0, z1, z2, z3, zf⟩ := block4 hans
      clear hb0 hb1 hb2 HC hans
      go_wp2
      refine bodyPost_ret (v := .tuple #[.agg #[.int .i64 3, .int .i64 0, .string s, .int .i64 0], .int .i64 s.size, .int .i64 0]) ?_ rfl ?_
      · simp only [results, hres]
        go_simp
      · have h := ret_tok HE.out (below4 HL.out (Nat.le_refl _) (.int .i64 3) (.int .i64 0) (.string s) (.int .i64 0))
        rw [bs_of] at h
        exact h
    | false =>
      have HN : Hid (∀ w, Calls Try.prog 50 #[.string s] w fun e w' => e = .returned (.bool false) ∧ Below w.heap.size w w') := fun w => by
        have h := isName_calls s w
        rw [hn] at h; exact h
      have HE : Hid (namA s.data.toList = (0, 0, [], 0, 62)) := by
        show _ = _
        unfold namA; rw [if_neg (by rw [hw]; decide), if_neg (by rw [hn]; decide)]
      clear hw hn HC
      go_enter Try.func58, Try.ntmps58
      go_wp2_with (go_at_call 77; refine (HW.out _).mono ?_; rintro e w' ⟨rfl, rfl⟩)
      refine (HN.out _).mono ?_
      rintro e w1 ⟨rfl, hb0⟩
      have hans : w1.heap[w.heap.size]? = some (.cells zero4 48 (0, 0)) := by rw [hb0.block _ (by simp)]; exact heap_alloc_new w _
      have HL : Hid (Below w.heap.size w w1) := below_box hb0
      obtain ⟨z0, z1, z2, z3, zf⟩ := block4 hans
      clear hb0 hans
      go_wp2
      refine bodyPost_ret (v := .tuple #[.agg #[.int .i64 0, .int .i64 0, .string ⟨#[]⟩, .int .i64 0], .int .i64 0, .int .i64 62]) ?_ rfl (ret_wrong HE.out ?_)
      · simp only [results, hres]
        go_simp
      · exact below4 HL.out (Nat.le_refl _) _ _ _ _
end Go.Proofs.Ytnnmhmlebffacaa
