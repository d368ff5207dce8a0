/-
  The walks of token, named, sign, text, first. The walks of text and first.
-/
import Derived.Test.YtnnmhmlebffacaaG16
namespace Go.Proofs.Ytnnmhmlebffacaa
open Go.RowKit

theorem clone_calls (s : ByteArray) (w : World) (hs : s.size ≤ 4000) :
    Calls Try.prog 92 #[.string s] w fun e w' => e = .returned (.string s) ∧ Below w.heap.size w w' := by
  have HC : Hid (∀ w, Calls Try.prog 96 #[.string s] w fun e w' => e = .returned (.string s) ∧ Below w.heap.size w w') := fun w => Try.stringslite_Clone s w (by omega)
  clear hs
  go_enter Try.func92, Try.ntmps92
  go_wp2_with (go_at_call 96; refine (HC.out _).mono ?_; rintro e w1 ⟨rfl, hb⟩)
  go_ret
  exact ⟨rfl, hb⟩
theorem token_calls (k : Int) (s : ByteArray) (w : World) (hs : s.size ≤ 4000) :
    Calls Try.prog 80 #[.int .i64 k, .string s] w fun e w' => e = .returned (.agg #[.int .i64 k, .int .i64 0, .string s, .int .i64 0]) ∧ Below w.heap.size w w' := by
  have hres : Try.f80.results = #[.cell 4 48] := by kernel_rfl
  have HC : Hid (∀ w, Calls Try.prog 92 #[.string s] w fun e w' => e = .returned (.string s) ∧ Below w.heap.size w w') := fun w => clone_calls s w hs
  clear hs
  go_enter Try.func80, Try.ntmps80
  go_wp2_with fail
  refine (HC.out _).mono ?_
  rintro e w1 ⟨rfl, hb1⟩
  have hans : w1.heap[w.heap.size]? = some (.cells zero4 48 (0, 0)) := by rw [hb1.block _ (by simp)]; exact heap_alloc_new w _
  have HL : Hid (Below w.heap.size w w1) := below_box hb1
  obtain ⟨z0, z1, z2, z3, zf⟩ := block4 hans
  clear hb1 HC hans
  go_wp2
  refine bodyPost_ret (v := .agg #[.int .i64 k, .int .i64 0, .string s, .int .i64 0]) ?_ rfl ⟨rfl, ?_⟩
  · simp only [results, hres]
    go_simp
  · exact below4 HL.out (Nat.le_refl _) _ _ _ _
def signA (s : List UInt8) : Int × Int × List UInt8 × Nat × Int := (6, 0, s, s.length, 0)
theorem sign_calls (s : ByteArray) (w : World) (hs : s.size ≤ 4000) :
    Calls Try.prog 60 #[.string s] w fun e w' => TokPost (signA s.data.toList) w e w' := by
  have hres : Try.f60.results = #[.cell 2 48, .tmp 3, .tmp 4] := by kernel_rfl
  have HC : Hid (∀ k w, Calls Try.prog 80 #[.int .i64 k, .string s] w fun e w' => e = .returned (.agg #[.int .i64 k, .int .i64 0, .string s, .int .i64 0]) ∧ Below w.heap.size w w') := fun k w => token_calls k s w hs
  have HE : Hid (signA s.data.toList = (6, 0, s.data.toList, s.size, 0)) := by
    show _ = _
    unfold signA; rw [size_toList]
  clear hs
  go_enter Try.func60, Try.ntmps60
  go_wp2_with fail
  refine (HC.out _ _).mono ?_
  rintro e w1 ⟨rfl, hb1⟩
  have hans : w1.heap[w.heap.size]? = some (.cells zero4 48 (0, 0)) := by rw [hb1.block _ (by simp)]; exact heap_alloc_new w _
  have HL : Hid (Below w.heap.size w w1) := below_box hb1
  obtain ⟨z0, z1, z2, z3, zf⟩ := block4 hans
  clear hb1 HC hans
  go_wp2
  refine bodyPost_ret (v := .tuple #[.agg #[.int .i64 6, .int .i64 0, .string s, .int .i64 0], .int .i64 s.size, .int .i64 0]) ?_ rfl ?_
  · simp only [results, hres]
    go_simp
  · have h := ret_tok HE.out (below4 HL.out (Nat.le_refl _) (.int .i64 6) (.int .i64 0) (.string s) (.int .i64 0))
    rw [bs_of] at h
    exact h
def namA (s : List UInt8) : Int × Int × List UInt8 × Nat × Int :=
  if wordB s then (4, 0, s, s.length, 0) else if nameB s then (3, 0, s, s.length, 0) else (0, 0, [], 0, 62)
set_option maxHeartbeats 1000000 in
theorem named_calls (s : ByteArray) (w : World) (hs : s.size ≤ 4000) :
    Calls Try.prog 58 #[.string s] w fun e w' => TokPost (namA s.data.toList) w e w' := by
  have hres : Try.f58.results = #[.cell 2 48, .tmp 3, .tmp 4] := by kernel_rfl
  have HC : Hid (∀ k w, Calls Try.prog 80 #[.int .i64 k, .string s] w fun e w' => e = .returned (.agg #[.int .i64 k, .int .i64 0, .string s, .int .i64 0]) ∧ Below w.heap.size w w') := fun k w => token_calls k s w hs
  clear hs
  cases hw : wordB s.data.toList with
  | true =>
    have HW : Hid (∀ w, Calls Try.prog 77 #[.string s] w fun e w' => e = .returned (.bool true) ∧ w' = w) := fun w => by
      have h := isWord_calls s w
      rw [hw] at h; exact h
    have HE : Hid (namA s.data.toList = (4, 0, s.data.toList, s.size, 0)) := by
      show _ = _
      unfold namA; rw [size_toList, if_pos hw]
    clear hw
    go_enter Try.func58, Try.ntmps58
    go_wp2_with (go_at_call 77; refine (HW.out _).mono ?_; rintro e w' ⟨rfl, rfl⟩)
    refine (HC.out _ _).mono ?_
    rintro e w1 ⟨rfl, hb1⟩
    have hans : w1.heap[w.heap.size]? = some (.cells zero4 48 (0, 0)) := by rw [hb1.block _ (by simp)]; exact heap_alloc_new w _
    have HL : Hid (Below w.heap.size w w1) := below_box hb1
    obtain ⟨z0, z1, z2, z3, zf⟩ := block4 hans
    clear hb1 HC hans
    go_wp2
    refine bodyPost_ret (v := .tuple #[.agg #[.int .i64 4, .int .i64 0, .string s, .int .i64 0], .int .i64 s.size, .int .i64 0]) ?_ rfl ?_
    · simp only [results, hres]
      go_simp
    · have h := ret_tok HE.out (below4 HL.out (Nat.le_refl _) (.int .i64 4) (.int .i64 0) (.string s) (.int .i64 0))
      rw [bs_of] at h
      exact h
  | false =>
    have HW : Hid (∀ w, Calls Try.prog 77 #[.string s] w fun e w' => e = .returned (.bool false) ∧ w' = w) := fun w => by
      have h := isWord_calls s w
      rw [hw] at h; exact h
    cases hn : nameB s.data.toList with
    | true =>
      have HN : Hid (∀ w, Calls Try.prog 50 #[.string s] w fun e w' => e = .returned (.bool true) ∧ Below w.heap.size w w') := fun w => by
        have h := isName_calls s w
        rw [hn] at h; exact h
      have HE : Hid (namA s.data.toList = (3, 0, s.data.toList, s.size, 0)) := by
        show _ = _
        unfold namA; rw [size_toList, if_neg (by rw [hw]; decide), if_pos hn]
      clear hw hn
      go_enter Try.func58, Try.ntmps58
      go_wp2_with (first
        | (go_at_call 77; refine (HW.out _).mono ?_; rintro e w' ⟨rfl, rfl⟩)
        | (go_at_call 50; refine (HN.out _).mono ?_; rintro e w1 ⟨rfl, hb0⟩))
      refine (HC.out _ _).mono ?_
      rintro e w2 ⟨rfl, hb1⟩
      have hb2 := hb0.trans (hb1.mono hb0.size)
      have hans : w2.heap[w.heap.size]? = some (.cells zero4 48 (0, 0)) := by rw [hb2.block _ (by simp)]; exact heap_alloc_new w _
      have HL : Hid (Below w.heap.size w w2) := below_box hb2
      obtain ⟨z0, z1, z2, z3, zf⟩ := block4 hans
      clear hb0 hb1 hb2 HC hans
      go_wp2
      refine bodyPost_ret (v := .tuple #[.agg #[.int .i64 3, .int .i64 0, .string s, .int .i64 0], .int .i64 s.size, .int .i64 0]) ?_ rfl ?_
      · simp only [results, hres]
        go_simp
      · have h := ret_tok HE.out (below4 HL.out (Nat.le_refl _) (.int .i64 3) (.int .i64 0) (.string s) (.int .i64 0))
        rw [bs_of] at h
        exact h
    | false =>
      have HN : Hid (∀ w, Calls Try.prog 50 #[.string s] w fun e w' => e = .returned (.bool false) ∧ Below w.heap.size w w') := fun w => by
        have h := isName_calls s w
        rw [hn] at h; exact h
      have HE : Hid (namA s.data.toList = (0, 0, [], 0, 62)) := by
        show _ = _
        unfold namA; rw [if_neg (by rw [hw]; decide), if_neg (by rw [hn]; decide)]
      clear hw hn HC
      go_enter Try.func58, Try.ntmps58
      go_wp2_with (go_at_call 77; refine (HW.out _).mono ?_; rintro e w' ⟨rfl, rfl⟩)
      refine (HN.out _).mono ?_
      rintro e w1 ⟨rfl, hb0⟩
      have hans : w1.heap[w.heap.size]? = some (.cells zero4 48 (0, 0)) := by rw [hb0.block _ (by simp)]; exact heap_alloc_new w _
      have HL : Hid (Below w.heap.size w w1) := below_box hb0
      obtain ⟨z0, z1, z2, z3, zf⟩ := block4 hans
      clear hb0 hans
      go_wp2
      refine bodyPost_ret (v := .tuple #[.agg #[.int .i64 0, .int .i64 0, .string ⟨#[]⟩, .int .i64 0], .int .i64 0, .int .i64 62]) ?_ rfl (ret_wrong HE.out ?_)
      · simp only [results, hres]
        go_simp
      · exact below4 HL.out (Nat.le_refl _) _ _ _ _
end Go.Proofs.Ytnnmhmlebffacaa
namespace Go.Proofs.Ytnnmhmlebffacaa
open Go.RowKit

theorem below_drewN {B : Nat} {a w : World} (h : Below B a w) (n : Nat) : Below B a (w.drewN n) := h.trans ⟨rfl, rfl, rfl, Nat.le_refl _, fun _ _ => rfl⟩
theorem drewN_heap (w : World) : ∀ n, (w.drewN n).heap = w.heap
  | 0 => rfl
  | n + 1 => by show ((w.drewN n).drew).heap = _; rw [← drewN_heap w n]; rfl
def textA (r : List UInt8) : Int × Int × List UInt8 × Nat × Int :=
  if textOk r then (5, 0, innerB r, (innerB r).length + 2, 0) else (0, 0, [], 0, 63)
theorem textA_no {r : List UInt8} (h : textOk r = false) : textA r = (0, 0, [], 0, 63) := by unfold textA; rw [if_neg (by rw [h]; decide)]
theorem all_step {p : UInt8 → Bool} {S : List UInt8} {k : Nat} {c : UInt8} (h : S[k]? = some c) (ha : (S.take k).all p = true) (hc : p c = true) : (S.take (k + 1)).all p = true := by
  obtain ⟨hlt, he⟩ := List.getElem?_eq_some_iff.1 h
  rw [List.take_succ_eq_append_getElem hlt, he, List.all_append, ha]; simp [hc]
theorem all_no {p : UInt8 → Bool} {S : List UInt8} {k : Nat} {c : UInt8} (h : S[k]? = some c) (hc : p c = false) : S.all p = false := by
  cases hx : S.all p with
  | false => rfl
  | true => rw [List.all_eq_true.1 hx c (List.mem_of_getElem? h)] at hc; cases hc
/-- The place of the answer, and of the look through a text behind it. -/
theorem numAt_behind {w w1 : World} (s : ByteArray) (hl : Below w.heap.size w w1) (ha : w1.heap[w.heap.size]? = some (.cells zero4 48 (0, 0))) (hz : w1.heap.size = w.heap.size + 1) : NumAt w s 0 (w1.alloc (.stringIter s 0)) := by
  refine ⟨hl.alloc (by omega) _, ?_, ?_⟩
  · have h := (Below.refl w1.heap.size w1).alloc (Nat.le_refl _) (.stringIter s 0)
    rw [h.block _ (by omega)]; exact ha
  · have h := heap_alloc_new w1 (.stringIter s 0)
    rw [hz] at h; exact h

set_option maxRecDepth 20000 in
set_option maxHeartbeats 2000000 in
theorem text_calls (s : ByteArray) (w : World) (hs : s.size ≤ 4000) (hp : 0 < s.size) :
    Calls Try.prog 59 #[.string s] w fun e w' => TokPost (textA (s.data.toList.drop 1)) w e w' := by
  have hres : Try.f59.results = #[.cell 2 48, .tmp 3, .tmp 4] := by kernel_rfl
  have hx : (s.extract 1 s.size).data.toList = s.data.toList.drop 1 := by
    rw [extract_list, List.take_of_length_le (by simp)]
  generalize hR : s.data.toList.drop 1 = R at *
  have hRl : R.length ≤ 3999 := by rw [← hR, List.length_drop, size_toList]; omega
  have HC : Hid (∀ w, Calls Try.prog 81 #[.string (s.extract 1 s.size), .string ⟨#[34]⟩] w fun e w' => CutPost (s.extract 1 s.size) 34 w e w') := fun w => cut_calls _ 34 w (by
    have h := size_toList (s.extract 1 s.size)
    rw [hx] at h
    unfold maxLen; omega)
  have HX : Hid ((s.extract 1 s.size).data.toList = R) := hx
  clear hx hR
  go_enter Try.func59, Try.ntmps59
  go_wp2_with fail
  refine (HC.out _).mono ?_
  rintro e w1 ⟨a, b, n, rfl, ha, hb, rfl⟩
  rw [HX.out] at ha hb ⊢
  clear hb
  have hal : a.data.toList = innerB R := ha
  have hasz : a.size = (innerB R).length := by rw [← size_toList, hal]
  have hsm : a.size ≤ 3999 := by rw [hasz]; exact Nat.le_trans (innerB_le R) hRl
  have hans : ((w.alloc (.cells zero4 48 (0, 0))).drewN n).heap[w.heap.size]? = some (.cells zero4 48 (0, 0)) := by rw [drewN_heap]; exact heap_alloc_new w _
  have hlow : Below w.heap.size w ((w.alloc (.cells zero4 48 (0, 0))).drewN n) := below_drewN ((Below.refl _ _).alloc (Nat.le_refl _) _) n
  have hsz : ((w.alloc (.cells zero4 48 (0, 0))).drewN n).heap.size = w.heap.size + 1 := by rw [drewN_heap]; simp
  have e0 : (w.alloc (.cells zero4 48 (0, 0))).drewN n = (w.alloc (.cells #[.int .i64 0, .int .i64 0, .string ⟨#[]⟩, .int .i64 0] 48 (0, 0))).drewN n := rfl
  rw [e0] at hans hlow hsz
  generalize (w.alloc (.cells #[.int .i64 0, .int .i64 0, .string ⟨#[]⟩, .int .i64 0] 48 (0, 0))).drewN n = W at *
  have HT : Hid (textOk R = (hasB 34 R && (decide (a.size ≤ 40) && a.data.toList.all inText))) := by
    show _ = _
    rw [hasz, hal]; rfl
  have HI : Hid (a.data.toList = innerB R) := hal
  clear ha hal e0 HC HX hasz
  by_cases hno : hasB 34 R = false ∨ 40 < a.size
  · have HE : Hid (textA R = (0, 0, [], 0, 63)) := textA_no (by
      rw [HT.out]
      rcases hno with h | h
      · rw [h]; rfl
      · rw [show decide (a.size ≤ 40) = false by simp; omega]; simp)
    obtain ⟨z0, z1, z2, z3, zf⟩ := block4 hans
    have HL : Hid (Below w.heap.size w W) := hlow
    have hq : hasB 34 R = false ∨ (hasB 34 R = true ∧ decide ((40 : Int) < (a.size : Int)) = true) := by
      cases hh : hasB 34 R with
      | false => exact .inl rfl
      | true =>
        rw [hh] at hno
        exact .inr ⟨rfl, by simp at hno ⊢; omega⟩
    clear hno hans hlow HT
    generalize hasB 34 R = f at *
    rcases hq with rfl | ⟨rfl, h40⟩ <;> (
      go_wp2
      refine bodyPost_ret (v := .tuple #[.agg #[.int .i64 0, .int .i64 0, .string ⟨#[]⟩, .int .i64 0], .int .i64 0, .int .i64 63]) ?_ rfl (ret_wrong HE.out ?_)
      · simp only [results, hres]
        go_simp
      · exact below4 HL.out (Nat.le_refl _) _ _ _ _)
  have hyes : hasB 34 R = true ∧ a.size ≤ 40 := by
    cases hh : hasB 34 R with
    | false => exact absurd (.inl hh) hno
    | true => exact ⟨rfl, by rw [hh] at hno; simp at hno; omega⟩
  have h40 : decide ((40 : Int) < (a.size : Int)) = false := by simp; omega
  have HT2 : Hid (textOk R = a.data.toList.all inText) := by
    show _ = _
    rw [HT.out, hyes.1, show decide (a.size ≤ 40) = true by simp; omega]; rfl
  have HZ : Hid (NumAt w a 0 (W.alloc (.stringIter a 0))) := numAt_behind a hlow hans hsz
  have hhas := hyes.1
  clear hno hyes HT hlow hans
  generalize hasB 34 R = f at *
  subst hhas
  go_wp2
  go_loopw [] (fun wr => ∃ (pos : Nat), pos ≤ a.size ∧ (a.data.toList.take pos).all inText = true ∧ NumAt w a pos wr) (fun wr => a.size - wr.iterPos (w.heap.size + 1))
  case atStart => exact ⟨0, Nat.zero_le _, by simp, HZ.out⟩
  case round =>
    obtain ⟨pos, hp0, hr, hat⟩ := hrel
    have HR : Hid ((a.data.toList.take pos).all inText = true) := hr
    have hpos0 := iterPos_of hat.iter
    clear hr HZ
    by_cases hp : pos < a.size
    · obtain ⟨x, d, hnx, hd1, hd2, hx⟩ := next_rune wr (w.heap.size + 1) a pos hat.iter hp
      have HG : Hid (a.data.toList[pos]? = some a[pos]) := getElem?_at a pos hp
      have hat2 := hat.step (pos + d)
      obtain ⟨W1, hW1⟩ : ∃ W1, W1 = wr.iterAt (w.heap.size + 1) a (pos + d) := ⟨_, rfl⟩
      rw [← hW1] at hnx hat2
      clear hW1 hat
      obtain ⟨z0, z1, z2, z3, zf⟩ := block4 hat2.ans
      have HL : Hid (Below w.heap.size w W1) := hat2.low
      have hin : inText a[pos] = true ↔ 32 ≤ x ∧ x ≤ 126 := by
        simp only [inText, Bool.and_eq_true, decide_eq_true_eq]
        rcases hx with ⟨h, _⟩ | ⟨h1, h2, _⟩ <;> omega
      cases hc : inText a[pos] with
      | false =>
        have HE : Hid (textA R = (0, 0, [], 0, 63)) := textA_no (by rw [HT2.out, all_no HG.out hc])
        have hq : decide (x < 32) = true ∨ (decide (x < 32) = false ∧ decide ((126 : Int) < x) = true) := by
          rw [hc] at hin
          simp at hin ⊢
          omega
        clear hin hx hc HG hat2 HR HT2
        rcases hq with h1 | ⟨h1, h2⟩ <;> (
          go_wp2
          refine bodyPost_ret (v := .tuple #[.agg #[.int .i64 0, .int .i64 0, .string ⟨#[]⟩, .int .i64 0], .int .i64 0, .int .i64 63]) ?_ rfl (ret_wrong HE.out ?_)
          · simp only [results, hres]
            go_simp
          · exact below4 HL.out (Nat.le_refl _) _ _ _ _)
      | true =>
        have hr := hin.1 hc
        have h1 : decide (x < 32) = false := by simp; omega
        have h2 : decide ((126 : Int) < x) = false := by simp; omega
        obtain rfl : d = 1 := by
          rcases hx with ⟨_, h, _⟩ | ⟨h, _, _⟩
          · exact h
          · omega
        have HS : Hid ((a.data.toList.take (pos + 1)).all inText = true) := all_step HG.out HR.out hc
        have HA : Hid (NumAt w a (pos + 1) W1) := hat2
        clear hin hx hc HG hat2 HR HT2 hr z0 z1 z2 z3 zf
        go_wp2
        go_roundw
        case rel => exact ⟨pos + 1, by omega, HS.out, HA.out⟩
        case measure => rw [iterPos_of HA.out.iter, hpos0]; omega
    · have hnx : ∀ ty, (Instr.next (.pointer (some ⟨w.heap.size + 1, 0, none⟩)) true ty).run Try.prog wr = _ := fun ty => Lib.run_next_end_at wr (w.heap.size + 1) a pos ty hat.iter hp
      have HE : Hid (textA R = (5, 0, a.data.toList, a.size + 2, 0)) := by
        have h := HR.out
        rw [List.take_of_length_le (by rw [size_toList]; omega)] at h
        show _ = _
        unfold textA
        rw [if_pos (by rw [HT2.out, h]), ← HI.out, size_toList]
      have HK : Hid (∀ w, Calls Try.prog 80 #[.int .i64 5, .string a] w fun e w' => e = .returned (.agg #[.int .i64 5, .int .i64 0, .string a, .int .i64 0]) ∧ Below w.heap.size w w') := fun w => token_calls 5 a w (by omega)
      have hat' := hat
      clear hat HT2 HR
      go_wp2_with fail
      refine (HK.out _).mono ?_
      rintro e w2 ⟨rfl, hb2⟩
      obtain ⟨z0, z1, z2, z3, zf⟩ := block4 (keepB hat'.ans hb2)
      have HL : Hid (Below w.heap.size w w2) := hat'.low.trans (hb2.mono hat'.low.size)
      clear hat' hb2 HK hnx
      go_wp2
      refine bodyPost_ret (v := .tuple #[.agg #[.int .i64 5, .int .i64 0, .string a, .int .i64 0], .int .i64 ((a.size + 2 : Nat) : Int), .int .i64 0]) ?_ rfl ?_
      · simp only [results, hres]
        go_simp
      · have h := ret_tok HE.out (below4 HL.out (Nat.le_refl _) (.int .i64 5) (.int .i64 0) (.string a) (.int .i64 0))
        rw [bs_of] at h
        exact h
end Go.Proofs.Ytnnmhmlebffacaa
