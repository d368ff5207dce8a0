/-
  The walks of the document's own IsWord, IsName, number, text, IsText, sign. The walks of the document's own IsName, number, text, IsText, sign.
-/
import Derived.Test.YtnnmhmlebffacaaG19
namespace Go.Proofs.Ytnnmhmlebffacaa
open Go.RowKit

/-! IsWord -/
def wordVals : Array Value := (wordsB.map fun l => Value.string (bs l)).toArray
theorem word_cell (W : World) (b : Nat) (f : Nat × Nat) (h : W.heap[b]? = some (.cells wordVals 9 f)) (k : Nat) (hk : k < 16) : ∃ x, wordsB[k]? = some x ∧ W.cell? ⟨b, k, none⟩ = some (.string (bs x)) := by
  have hl : wordsB.length = 16 := rfl
  refine ⟨wordsB[k]'(by omega), List.getElem?_eq_getElem (by omega), ?_⟩
  rw [cell_of_row W b k _ 9 f h]
  simp [wordVals, hl, hk]
theorem word_take {S x : List UInt8} {k : Nat} (hx : wordsB[k]? = some x) (h : S ∉ wordsB.take k) (hne : S ≠ x) : S ∉ wordsB.take (k + 1) := by
  obtain ⟨hlt, he⟩ := List.getElem?_eq_some_iff.1 hx
  rw [List.take_succ_eq_append_getElem hlt, he]
  simp [h, hne]
set_option maxRecDepth 20000 in
set_option maxHeartbeats 2000000 in
theorem refWord_calls (s : ByteArray) (w : World) :
    Calls Try.prog 71 #[.string s] w fun e w' => e = .returned (.bool (wordB s.data.toList)) ∧ Below w.heap.size w w' := by
  have HA : Hid (∀ cs, cs = wordVals → (w.alloc (.cells cs 9 (0, 0))).heap[w.heap.size]? = some (.cells wordVals 9 (0, 0))) := fun cs h => by subst h; exact heap_alloc_new w _
  have HB : Hid (∀ o, Below w.heap.size w (w.alloc o)) := fun o => (Below.refl _ _).alloc (Nat.le_refl _) _
  go_enter Try.func71, Try.ntmps71
  go_wp2
  generalize hW : w.alloc _ = W at *
  have hans : W.heap[w.heap.size]? = some (.cells wordVals 9 (0, 0)) := by rw [← hW]; exact HA.out _ rfl
  have HBW : Hid (Below w.heap.size w W) := by rw [← hW]; exact HB.out _
  have HAn : Hid (W.heap[w.heap.size]? = some (.cells wordVals 9 (0, 0))) := hans
  clear hans hW HA HB
  go_loop [4] (fun i => ∃ k : Nat, k ≤ 16 ∧ i = .int .i64 k ∧ s.data.toList ∉ wordsB.take k) (fun i => 16 - (intOf i).toNat)
  case atStart => exact ⟨0, by omega, rfl, by simp⟩
  case round =>
    obtain ⟨k, hk, rfl, hn⟩ := hrel
    have HN : Hid (s.data.toList ∉ wordsB.take k) := hn
    clear hn
    by_cases hlt : k < 16
    · obtain ⟨x, hx, hc⟩ := word_cell W w.heap.size (0, 0) HAn.out k hlt
      have hdk : decide ((k : Int) < 16) = true := by simp; omega
      by_cases he : s.data.toList = x
      · have hb : ((bs x).toList == s.toList) = true := by rw [bs_toList, ByteArray.toList_eq, he]; simp
        have HE : Hid (wordB s.data.toList = true) := by
          show _ = _
          rw [he]
          simp only [wordB, decide_eq_true_eq]
          exact List.mem_of_getElem? hx
        clear hx he HN
        go_wp2
        go_ret
        exact ⟨ret_bool HE.out.symm, HBW.out⟩
      · have hb : ((bs x).toList == s.toList) = false := by
          rw [bs_toList, ByteArray.toList_eq, beq_eq_false_iff_ne]
          exact fun e => he e.symm
        have HS : Hid (s.data.toList ∉ wordsB.take (k + 1)) := word_take hx HN.out he
        clear hx he HN
        go_wp2
        go_round
        case rel => exact ⟨k + 1, by omega, by go_num, HS.out⟩
        case measure => simp [intOf]; omega
    · have hdk : decide ((k : Int) < 16) = false := by simp; omega
      have HE : Hid (wordB s.data.toList = false) := by
        show _ = _
        have h := HN.out
        rw [List.take_of_length_le (by show 16 ≤ k; omega)] at h
        simp only [wordB, decide_eq_false_iff_not]
        exact h
      clear HN
      go_wp2
      go_ret
      exact ⟨ret_bool HE.out.symm, HBW.out⟩
end Go.Proofs.Ytnnmhmlebffacaa
namespace Go.Proofs.Ytnnmhmlebffacaa
open Go.RowKit

set_option maxHeartbeats 4000000 in
theorem refName_calls (s : ByteArray) (w : World) :
    Calls Try.prog 53 #[.string s] w fun e w' => e = .returned (.bool (nameB s.data.toList)) ∧ Below w.heap.size w w' := by
  have HN : Hid (nameB s.data.toList = (!wordB s.data.toList && (decide (1 ≤ s.size) && (decide (s.size ≤ 16) && lettersB s.data.toList)))) := by
    show _ = _
    unfold nameB; rw [size_toList]
  have HW : Hid (∀ w, Calls Try.prog 71 #[.string s] w fun e w' => e = .returned (.bool (wordB s.data.toList)) ∧ Below w.heap.size w w') := fun w => refWord_calls s w
  by_cases hno : wordB s.data.toList = true ∨ s.size < 1 ∨ 16 < s.size
  · have HE : Hid (nameB s.data.toList = false) := by
      show _ = _
      rw [HN.out]
      rcases hno with h | h | h
      · rw [h]; rfl
      · rw [decide_eq_false (show ¬ 1 ≤ s.size by omega)]; simp
      · rw [show decide (s.size ≤ 16) = false by simp; omega]; simp
    have hq : wordB s.data.toList = true ∨ (wordB s.data.toList = false ∧ decide ((s.size : Int) < 1) = true) ∨ (wordB s.data.toList = false ∧ decide ((s.size : Int) < 1) = false ∧ decide ((16 : Int) < (s.size : Int)) = true) := by
      cases hw : wordB s.data.toList with
      | true => exact .inl rfl
      | false =>
        rw [hw] at hno
        by_cases h1 : s.size < 1
        · exact .inr (.inl ⟨rfl, decide_eq_true (by omega)⟩)
        · refine .inr (.inr ⟨rfl, decide_eq_false (by omega), decide_eq_true ?_⟩)
          rcases hno with h | h | h
          · cases h
          · omega
          · omega
    clear hno HN
    generalize wordB s.data.toList = W at *
    rcases hq with h1 | ⟨h1, h2⟩ | ⟨h1, h2, h3⟩ <;> (
      subst h1
      go_enter Try.func53, Try.ntmps53
      go_wp2_with (go_at_call 71; refine (HW.out _).mono ?_; rintro e w1 ⟨rfl, hb1⟩)
      go_ret
      exact ⟨ret_bool HE.out.symm, hb1⟩)
  have hw : wordB s.data.toList = false := by
    cases hw : wordB s.data.toList with
    | true => exact absurd (.inl hw) hno
    | false => rfl
  have hs1 : ¬ s.size < 1 := fun h => hno (.inr (.inl h))
  have hs2 : ¬ 16 < s.size := fun h => hno (.inr (.inr h))
  have h1 : decide ((s.size : Int) < 1) = false := by simp; omega
  have h2 : decide ((16 : Int) < (s.size : Int)) = false := by simp; omega
  have HM : Hid (nameB s.data.toList = lettersB s.data.toList) := by
    show _ = _
    rw [HN.out, hw, show decide (s.size ≤ 16) = true by simp; omega, show decide (1 ≤ s.size) = true by simp; omega]; rfl
  rw [hw] at HW
  clear hno hw HN
  go_enter Try.func53, Try.ntmps53
  go_wp2_with (go_at_call 71; refine (HW.out _).mono ?_; rintro e w1 ⟨rfl, hb1⟩)
  have HB1 : Hid (Below w.heap.size w w1) := hb1
  clear hb1 HW
  go_loop [4] (fun i => ∃ k : Nat, k ≤ s.size ∧ i = .int .i64 k ∧ lettersB (s.data.toList.take k) = true) (fun i => s.size - (intOf i).toNat)
  case atStart => exact ⟨0, Nat.zero_le _, rfl, by simp [lettersB]⟩
  case round =>
    obtain ⟨k, hk, rfl, hr⟩ := hrel
    have HR : Hid (lettersB (s.data.toList.take k) = true) := hr
    clear hr
    by_cases hlt : k < s.size
    · have hdk : decide ((k : Int) < (s.size : Int)) = true := by simp; omega
      have HG : Hid (s.data.toList[k]? = some s[k]) := getElem?_at s k hlt
      have HS : Hid (∀ w, Calls Try.prog 79 #[.int .u8 (s[k].toNat : Int)] w fun e w' => e = .returned (.bool (isSmall s[k])) ∧ w' = w) := fun w => small_calls s[k] w
      have HD : Hid (∀ w, Calls Try.prog 69 #[.int .u8 (s[k].toNat : Int)] w fun e w' => e = .returned (.bool (isDig s[k])) ∧ w' = w) := fun w => digit_calls s[k] w
      have HRO : Hid (restOk s[k] = (isSmall s[k] || isDig s[k] || ((s[k].toNat : Int) == 95))) := by
        show _ = _
        unfold restOk
        rw [show (95 : UInt8) = UInt8.ofNat 95 from rfl, beq_byte s[k] 95 (by decide)]; rfl
      have HF : Hid (((k = 0 ∧ isSmall s[k] = false) ∨ restOk s[k] = false) → nameB s.data.toList = false) := fun h => by
        rw [HM.out, lett_fail HG.out h]
      have HT : Hid ((k = 0 → isSmall s[k] = true) → restOk s[k] = true → lettersB (s.data.toList.take (k + 1)) = true) := fun h0 h1 => lett_step HG.out HR.out h0 h1
      rw [HRO.out] at HF HT
      generalize isSmall s[k] = A at *
      generalize isDig s[k] = B at *
      clear HRO HG HR HM
      cases A with
      | true =>
        have HX : Hid (lettersB (s.data.toList.take (k + 1)) = true) := HT.out (fun _ => rfl) (by simp)
        go_wp2_with (first
          | (go_at_call 79; refine (HS.out _).mono ?_; rintro e w' ⟨rfl, rfl⟩)
          | (go_at_call 69; refine (HD.out _).mono ?_; rintro e w' ⟨rfl, rfl⟩))
        go_round
        case rel => exact ⟨k + 1, by omega, by go_num, HX.out⟩
        case measure => simp [intOf]; omega
      | false =>
        by_cases h0 : k = 0
        · have hz : ((k : Int) == 0) = true := by rw [beq_iff_eq]; omega
          have HE : Hid (nameB s.data.toList = false) := HF.out (.inl ⟨h0, rfl⟩)
          clear h0 HF HT
          go_wp2_with (first
            | (go_at_call 79; refine (HS.out _).mono ?_; rintro e w' ⟨rfl, rfl⟩)
            | (go_at_call 69; refine (HD.out _).mono ?_; rintro e w' ⟨rfl, rfl⟩))
          go_ret
          exact ⟨ret_bool HE.out.symm, HB1.out⟩
        · have hz : ((k : Int) == 0) = false := by rw [beq_eq_false_iff_ne]; omega
          cases B with
          | true =>
            have HX : Hid (lettersB (s.data.toList.take (k + 1)) = true) := HT.out (fun h => absurd h h0) (by simp)
            clear HF HT
            go_wp2_with (first
              | (go_at_call 79; refine (HS.out _).mono ?_; rintro e w' ⟨rfl, rfl⟩)
              | (go_at_call 69; refine (HD.out _).mono ?_; rintro e w' ⟨rfl, rfl⟩))
            go_round
            case rel => exact ⟨k + 1, by omega, by go_num, HX.out⟩
            case measure => simp [intOf]; omega
          | false =>
            cases h95 : ((s[k].toNat : Int) == 95) with
            | true =>
              have hne : ((s[k].toNat : Int) != 95) = false := by rw [bne, h95]; rfl
              have HX : Hid (lettersB (s.data.toList.take (k + 1)) = true) := HT.out (fun h => absurd h h0) (by rw [h95]; rfl)
              clear HF HT h95
              go_wp2_with (first
                | (go_at_call 79; refine (HS.out _).mono ?_; rintro e w' ⟨rfl, rfl⟩)
                | (go_at_call 69; refine (HD.out _).mono ?_; rintro e w' ⟨rfl, rfl⟩))
              go_round
              case rel => exact ⟨k + 1, by omega, by go_num, HX.out⟩
              case measure => simp [intOf]; omega
            | false =>
              have hne : ((s[k].toNat : Int) != 95) = true := by rw [bne, h95]; rfl
              have HE : Hid (nameB s.data.toList = false) := HF.out (.inr (by rw [h95]; rfl))
              clear HF HT h95
              go_wp2_with (first
                | (go_at_call 79; refine (HS.out _).mono ?_; rintro e w' ⟨rfl, rfl⟩)
                | (go_at_call 69; refine (HD.out _).mono ?_; rintro e w' ⟨rfl, rfl⟩))
              go_ret
              exact ⟨ret_bool HE.out.symm, HB1.out⟩
    · have hdk : decide ((k : Int) < (s.size : Int)) = false := by simp; omega
      have HE : Hid (nameB s.data.toList = true) := by
        have h := HR.out
        rw [List.take_of_length_le (by rw [size_toList]; omega)] at h
        show _ = _
        rw [HM.out, h]
      clear HR HM
      go_wp2
      go_ret
      exact ⟨ret_bool HE.out.symm, HB1.out⟩

/-! number -/
theorem ret2 {a : Int} {b : Nat} {x y : Bool} (h : a = (b : Int)) (h' : x = y) : Ending.returned (.tuple #[.int .i64 a, .bool x]) = .returned (.tuple #[.int .i64 (b : Int), .bool y]) := by rw [h, h']
set_option maxHeartbeats 4000000 in
theorem refNumber_calls (s : ByteArray) (w : World) (hs : s.size ≤ 4000) :
    Calls Try.prog 70 #[.string s] w fun e w' => e = .returned (.tuple #[.int .i64 (((numO s.data.toList).getD 0 : Nat) : Int), .bool (numO s.data.toList).isSome]) ∧ w' = w := by
  have HO : Hid (¬ (1 < s.size ∧ s.data.toList.head? = some 48) → numO s.data.toList = numGo 0 s.data.toList) := fun h => by
    unfold numO; rw [if_neg (by rw [size_toList]; exact h)]
  have HO2 : Hid ((1 < s.size ∧ s.data.toList.head? = some 48) → numO s.data.toList = none) := fun h => by
    unfold numO; rw [if_pos (by rw [size_toList]; exact h)]
  go_enter Try.func70, Try.ntmps70
  go_wp2
  go_loop [4, 5] (fun nn i => ∃ k n : Nat, k ≤ s.size ∧ i = .int .i64 k ∧ nn = .int .i64 n ∧ n ≤ maxC ∧ Hid ((1 < s.size ∧ s.data.toList.head? = some 48) → k ≤ 1) ∧ Hid (numGo n (s.data.toList.drop k) = numGo 0 s.data.toList)) (fun _ i => s.size - (intOf i).toNat)
  case atStart => exact ⟨0, 0, Nat.zero_le _, rfl, rfl, Nat.zero_le _, (fun _ => by omega), rfl⟩
  case round =>
    obtain ⟨k, n, hk, rfl, rfl, hn, H1, HT⟩ := hrel
    unfold maxC at hn
    by_cases hlt : k < s.size
    · have hdk : decide ((k : Int) < (s.size : Int)) = true := by simp; omega
      have HG : Hid (s.data.toList.drop k = s[k] :: s.data.toList.drop (k + 1)) := drop_at (getElem?_at s k hlt)
      have HNo : Hid (numGo n (s[k] :: s.data.toList.drop (k + 1)) = none → numO s.data.toList = none) := fun h => by
        by_cases hc : 1 < s.size ∧ s.data.toList.head? = some 48
        · exact HO2.out hc
        · rw [HO.out hc, ← HT.out, HG.out, h]
      have hp : 0 < s.size := by omega
      have hhd : s.data.toList.head? = some s[0] := head_at s hp
      cases hdg : isDig s[k] with
      | false =>
        have HC : Hid (∀ w, Calls Try.prog 69 #[.int .u8 (s[k].toNat : Int)] w fun e w' => e = .returned (.bool false) ∧ w' = w) := fun w => by
          have h := digit_calls s[k] w
          rw [hdg] at h; exact h
        have HE : Hid (numO s.data.toList = none) := HNo.out (numGo_no hdg)
        clear hdg hhd HNo HG HT H1 HO HO2
        go_wp2_with (go_at_call 69; refine (HC.out _).mono ?_; rintro e w' ⟨rfl, rfl⟩)
        go_ret2
        rw [HE.out]
        exact ⟨rfl, rfl⟩
      | true =>
        have HC : Hid (∀ w, Calls Try.prog 69 #[.int .u8 (s[k].toNat : Int)] w fun e w' => e = .returned (.bool true) ∧ w' = w) := fun w => by
          have h := digit_calls s[k] w
          rw [hdg] at h; exact h
        obtain ⟨hg1, hg2⟩ := (isDig_iff _).1 hdg
        by_cases h10 : k = 1 ∧ s[0] = 48
        · have hk1 : ((k : Int) == 1) = true := by rw [beq_iff_eq]; omega
          have h48 : ((s[0].toNat : Int) == 48) = true := by rw [h10.2]; rfl
          have HE : Hid (numO s.data.toList = none) := HO2.out ⟨by omega, by rw [hhd, h10.2]⟩
          clear hdg hhd HNo HG HT H1 HO HO2 h10
          go_wp2_with (go_at_call 69; refine (HC.out _).mono ?_; rintro e w' ⟨rfl, rfl⟩)
          go_ret2
          rw [HE.out]
          exact ⟨rfl, rfl⟩
        · have hk1 : ((k : Int) == 1) = false ∨ (((k : Int) == 1) = true ∧ ((s[0].toNat : Int) == 48) = false) := by
            by_cases hk' : k = 1
            · refine .inr ⟨by rw [beq_iff_eq]; omega, ?_⟩
              rw [beq_eq_false_iff_ne]
              intro e
              exact h10 ⟨hk', (eq48 s[0]).2 (by omega)⟩
            · exact .inl (by rw [beq_eq_false_iff_ne]; omega)
          have H2 : Hid ((1 < s.size ∧ s.data.toList.head? = some 48) → k + 1 ≤ 1) := fun hc => by
            have h := H1.out hc
            rw [hhd] at hc
            have h0 : s[0] = 48 := Option.some.inj hc.2
            by_cases hk' : k = 1
            · exact absurd ⟨hk', h0⟩ h10
            · omega
          by_cases hbig : maxC < 10 * n + (s[k].toNat - 48)
          · have HE : Hid (numO s.data.toList = none) := HNo.out (numGo_big hdg hbig)
            unfold maxC at hbig
            have hgt : decide ((72057594037927936 : Int) < 10 * (n : Int) + ((s[k].toNat : Int) - 48)) = true := by simp; omega
            clear hdg hhd HNo HG HT H1 H2 HO HO2 h10
            rcases hk1 with h1 | ⟨h1, h2⟩ <;> (
              go_wp2_with (go_at_call 69; refine (HC.out _).mono ?_; rintro e w' ⟨rfl, rfl⟩)
              go_ret2
              rw [HE.out]
              exact ⟨rfl, rfl⟩)
          · have HS : Hid (numGo (10 * n + (s[k].toNat - 48)) (s.data.toList.drop (k + 1)) = numGo 0 s.data.toList) := by
              show _ = _
              rw [← HT.out, HG.out, numGo_go hdg hbig]
            have hbig2 := hbig
            unfold maxC at hbig2
            have hgt : decide ((72057594037927936 : Int) < 10 * (n : Int) + ((s[k].toNat : Int) - 48)) = false := by simp; omega
            clear hdg hhd HNo HG HT H1 h10
            rcases hk1 with h1 | ⟨h1, h2⟩ <;> (
              go_wp2_with (go_at_call 69; refine (HC.out _).mono ?_; rintro e w' ⟨rfl, rfl⟩)
              go_round
              case rel => exact ⟨k + 1, 10 * n + (s[k].toNat - 48), by omega, by go_num, val_int (by omega), by omega, H2.out, HS.out⟩
              case measure => simp [intOf]; omega)
    · have hdk : decide ((k : Int) < (s.size : Int)) = false := by simp; omega
      have HE : Hid (numO s.data.toList = some n) := by
        have h := HT.out
        rw [List.drop_eq_nil_of_le (by rw [size_toList]; omega), numGo] at h
        show _ = _
        rw [HO.out (fun hc => by have := H1.out hc; omega), ← h]
      clear HT H1 HO HO2
      go_wp2
      go_ret2
      rw [HE.out]
      exact ⟨rfl, rfl⟩
end Go.Proofs.Ytnnmhmlebffacaa
