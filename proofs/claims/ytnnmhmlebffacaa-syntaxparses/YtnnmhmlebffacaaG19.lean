/-
  What the tokens of a source are: their numbers, their texts, their places. The walks of the document's own small, digit, part, skipped, run, text, IsText.
-/
import Derived.Test.YtnnmhmlebffacaaG01
import Derived.Test.YtnnmhmlebffacaaG18
namespace Go.Proofs.Ytnnmhmlebffacaa

theorem numGo_le : ∀ (s : List UInt8) (n m : Nat), numGo n s = some m → n ≤ maxC → m ≤ maxC
  | [], n, m, h, hn => by simp [numGo] at h; omega
  | c :: r, n, m, h, _ => by
    rw [numGo] at h
    split at h
    · split at h
      · cases h
      · exact numGo_le r _ m h (by omega)
    · cases h
theorem numO_le {s : List UInt8} {m : Nat} (h : numO s = some m) : m ≤ maxC := by
  unfold numO at h
  split at h
  · cases h
  · exact numGo_le s 0 m h (Nat.zero_le _)
theorem numB_le (s : List UInt8) : numB s ≤ 72057594037927936 := by
  cases s with
  | nil => simp [numB]
  | cons c r =>
    simp only [numB]
    split
    · cases h : numO (runB (c :: r)) with
      | none => simp
      | some m => have := numO_le h; unfold maxC at this; simpa using this
    · omega
theorem kindB_range (s : List UInt8) : 0 ≤ kindB s ∧ kindB s ≤ 6 := by
  cases s with
  | nil => simp [kindB]
  | cons c r =>
    simp only [kindB]
    repeat' split
    all_goals omega
theorem textB_le {s : List UInt8} (hs : s ≠ []) (he : errB s = 0) : (textB s).length ≤ s.length := by
  cases s with
  | nil => exact absurd rfl hs
  | cons c r =>
    simp only [textB]
    have h1 := runB_le (c :: r)
    have h2 := innerB_le r
    simp only [List.length_cons] at h1 ⊢
    split
    · simp
    · rename_i hd
      split
      · omega
      · rename_i hp
        split
        · omega
        · rename_i h34
          split
          · simp
          · rename_i hm
            simp only [errB, hd, hp, h34, hm] at he
            cases r with
            | nil => simp at he
            | cons d r => simp
theorem tkB_ok {s : List UInt8} {p : Nat} (h : p + s.length ≤ 4000) (hs : s ≠ []) (he : errB s = 0) : TkOk (tkB s p) := by
  refine ⟨?_, ?_, ?_, ?_⟩
  · have := kindB_range s; show -10 ≤ kindB s ∧ kindB s ≤ 10; omega
  · have := numB_le s; show 0 ≤ ((numB s : Nat) : Int) ∧ ((numB s : Nat) : Int) ≤ 72057594037927936; omega
  · have := textB_le hs he; show (textB s).length ≤ 4000; omega
  · show p ≤ 4000; omega
theorem skip_add (s : List UInt8) (p n : Nat) (h : p + s.length ≤ 4000) (hn : n ≤ s.length) : p + n + skipB (s.drop n) + (s.drop (n + skipB (s.drop n))).length ≤ 4000 := by
  have h1 := skipB_le (s.drop n)
  rw [List.length_drop] at h1 ⊢
  omega
theorem tok_all : ∀ (f p : Nat) (s : List UInt8), p + s.length ≤ 4000 → ∀ t ∈ (tokGo f p s).1, TkOk t
  | 0, p, s, _, t, ht => by simp [tokGo] at ht
  | f + 1, p, s, h, t, ht => by
    rw [tokGo] at ht
    split at ht
    · cases ht
    · rename_i hs
      split at ht
      · cases ht
      · rename_i he
        have he' : errB s = 0 := by simpa using he
        rcases List.mem_cons.1 ht with rfl | ht
        · exact tkB_ok h hs he'
        · exact tok_all f _ _ (skip_add s p _ h (lenB_le hs he')) t ht
theorem tok_few : ∀ (f p : Nat) (s : List UInt8), (tokGo f p s).1.length ≤ s.length
  | 0, p, s => by simp [tokGo]
  | f + 1, p, s => by
    rw [tokGo]
    split
    · simp
    · rename_i hs
      split
      · simp
      · rename_i he
        have he' : errB s = 0 := by simpa using he
        have h1 := tok_few f (p + lenB s + skipB (s.drop (lenB s))) (s.drop (lenB s + skipB (s.drop (lenB s))))
        have h2 := lenB_pos hs
        have h3 := lenB_le hs he'
        rw [List.length_drop] at h1
        simp only [List.length_cons]
        omega
theorem scan_ok (S : List UInt8) : ∀ t ∈ (scanB S).1, TkOk t := by
  intro t ht
  unfold scanB at ht
  split at ht
  · cases ht
  · rename_i hl
    unfold finB at ht
    split at ht
    · simp only [List.mem_append, List.mem_singleton] at ht
      rcases ht with ht | rfl
      · refine tok_all _ _ _ ?_ t ht
        rw [List.length_drop]
        have := skipB_le S
        omega
      · exact ⟨by simp [endTk], by simp [endTk], by simp [endTk], by simp [endTk]; omega⟩
    · cases ht
theorem scan_few (S : List UInt8) : (scanB S).1.length ≤ 4001 := by
  unfold scanB
  split
  · simp
  · rename_i hl
    unfold finB
    split
    · have h := tok_few (S.drop (skipB S)).length (skipB S) (S.drop (skipB S))
      simp only [List.length_append, List.length_singleton]
      have h2 : (S.drop (skipB S)).length ≤ S.length := by rw [List.length_drop]; omega
      unfold tokB
      omega
    · simp
end Go.Proofs.Ytnnmhmlebffacaa
namespace Go.Proofs.Ytnnmhmlebffacaa
open Go.RowKit

theorem small_calls (c : UInt8) (w : World) :
    Calls Try.prog 79 #[.int .u8 (c.toNat : Int)] w fun e w' => e = .returned (.bool (isSmall c)) ∧ w' = w := by
  have hb := UInt8.toNat_lt c
  go_enter Try.func79, Try.ntmps79
  go_wp2
  all_goals (go_ret; exact ⟨ret_bool (by rw [Bool.eq_iff_iff]; simp [isSmall]; omega), rfl⟩)
theorem digit_calls (c : UInt8) (w : World) :
    Calls Try.prog 69 #[.int .u8 (c.toNat : Int)] w fun e w' => e = .returned (.bool (isDig c)) ∧ w' = w := by
  have hb := UInt8.toNat_lt c
  go_enter Try.func69, Try.ntmps69
  go_wp2
  all_goals (go_ret; exact ⟨ret_bool (by rw [Bool.eq_iff_iff]; simp [isDig]; omega), rfl⟩)
theorem beq_byte (c : UInt8) (n : Nat) (h : n < 256) : (c == UInt8.ofNat n) = ((c.toNat : Int) == (n : Int)) := by
  rw [Bool.eq_iff_iff, beq_iff_eq, beq_iff_eq, eqN c n h]; omega
theorem part_calls (c : UInt8) (w : World) :
    Calls Try.prog 88 #[.int .u8 (c.toNat : Int)] w fun e w' => e = .returned (.bool (isPart c)) ∧ w' = w := by
  have hb := UInt8.toNat_lt c
  have HS : Hid (∀ w, Calls Try.prog 79 #[.int .u8 (c.toNat : Int)] w fun e w' => e = .returned (.bool (isSmall c)) ∧ w' = w) := fun w => small_calls c w
  have HD : Hid (∀ w, Calls Try.prog 69 #[.int .u8 (c.toNat : Int)] w fun e w' => e = .returned (.bool (isDig c)) ∧ w' = w) := fun w => digit_calls c w
  have HP : Hid (isPart c = (isSmall c || isDig c || ((c.toNat : Int) == 95) || (decide (65 ≤ c.toNat) && decide (c.toNat ≤ 90)))) := by
    show _ = _
    unfold isPart
    rw [show (95 : UInt8) = UInt8.ofNat 95 from rfl, beq_byte c 95 (by decide)]; rfl
  generalize isPart c = P at *
  generalize isSmall c = A at *
  generalize isDig c = B at *
  generalize c.toNat = n at *
  go_enter Try.func88, Try.ntmps88
  go_wp2_with (first
    | (go_at_call 79; refine (HS.out _).mono ?_; rintro e w' ⟨rfl, rfl⟩)
    | (go_at_call 69; refine (HD.out _).mono ?_; rintro e w' ⟨rfl, rfl⟩))
  all_goals (go_ret; refine ⟨ret_bool ?_, rfl⟩; rw [HP.out]; clear HP HS HD; simp_all)
  all_goals first
    | omega
    | (rw [Bool.eq_iff_iff]; simp; omega)

/-! run -/
theorem run_extract (s : ByteArray) (p k : Nat) (hk : k = p + (runB (s.data.toList.drop p)).length) : s.extract p k = bs (runB (s.data.toList.drop p)) := by
  refine byte_ext ?_
  rw [extract_list, bs_list, hk, List.drop_take]
  rw [show p + (runB (s.data.toList.drop p)).length - p = (runB (s.data.toList.drop p)).length by omega, runB_take]
theorem refRun_calls (s : ByteArray) (p : Nat) (w : World) (hs : s.size ≤ 4000) (hp : p ≤ s.size) :
    Calls Try.prog 68 #[.string s, .int .i64 (p : Int)] w fun e w' => e = .returned (.string (bs (runB (s.data.toList.drop p)))) ∧ w' = w := by
  go_enter Try.func68, Try.ntmps68
  go_wp2
  go_loop [5] (fun i => ∃ k : Nat, p ≤ k ∧ k ≤ s.size ∧ i = .int .i64 k ∧ k + (runB (s.data.toList.drop k)).length = p + (runB (s.data.toList.drop p)).length) (fun i => s.size - (intOf i).toNat)
  case atStart => exact ⟨p, Nat.le_refl _, hp, rfl, rfl⟩
  case round =>
    obtain ⟨k, hpk, hk, rfl, hr⟩ := hrel
    have HR : Hid (k + (runB (s.data.toList.drop k)).length = p + (runB (s.data.toList.drop p)).length) := hr
    clear hr
    by_cases hlt : k < s.size
    · have hdk : decide ((k : Int) < (s.size : Int)) = true := by simp; omega
      have HG : Hid (s.data.toList[k]? = some s[k]) := getElem?_at s k hlt
      cases hc : isPart s[k] with
      | true =>
        have HS : Hid (k + 1 + (runB (s.data.toList.drop (k + 1))).length = p + (runB (s.data.toList.drop p)).length) := run_step HG.out hc HR.out
        have HC : Hid (∀ w, Calls Try.prog 88 #[.int .u8 (s[k].toNat : Int)] w fun e w' => e = .returned (.bool true) ∧ w' = w) := fun w => by
          have h := part_calls s[k] w
          rw [hc] at h; exact h
        clear hc HG HR
        go_wp2_with (go_at_call 88; refine (HC.out _).mono ?_; rintro e w' ⟨rfl, rfl⟩)
        go_round
        case rel => exact ⟨k + 1, by omega, by omega, by go_num, HS.out⟩
        case measure => simp [intOf]; omega
      | false =>
        have HE : Hid (s.extract p k = bs (runB (s.data.toList.drop p))) := run_extract s p k (by
          have h := HR.out
          rw [run_stop HG.out hc] at h
          omega)
        have HC : Hid (∀ w, Calls Try.prog 88 #[.int .u8 (s[k].toNat : Int)] w fun e w' => e = .returned (.bool false) ∧ w' = w) := fun w => by
          have h := part_calls s[k] w
          rw [hc] at h; exact h
        clear hc HG HR
        go_wp2_with (go_at_call 88; refine (HC.out _).mono ?_; rintro e w' ⟨rfl, rfl⟩)
        go_ret
        rw [HE.out]
        exact ⟨rfl, rfl⟩
    · have hdk : decide ((k : Int) < (s.size : Int)) = false := by simp; omega
      have HE : Hid (s.extract p k = bs (runB (s.data.toList.drop p))) := run_extract s p k (by
        have h := HR.out
        rw [List.drop_eq_nil_of_le (by rw [size_toList]; omega)] at h
        simpa [runB] using h)
      clear HR
      go_wp2
      go_ret
      rw [HE.out]
      exact ⟨rfl, rfl⟩

/-! skipped -/
theorem skip_any {S : List UInt8} {k : Nat} (h : S[k]? = some 10) : skipGo true (S.drop k) = skipGo false (S.drop k) := by
  rw [skip_lf h, skip_lf h]
theorem skip_hash' {S : List UInt8} {k : Nat} (h : S[k]? = some 35) : skipGo false (S.drop k) = skipGo true (S.drop k) := by
  rw [drop_at h]; simp [skipGo, isBl]
theorem skip_in {S : List UInt8} {k : Nat} {c : UInt8} (h : S[k]? = some c) (hc : c ≠ 10) : skipGo true (S.drop k) = 1 + skipGo true (S.drop (k + 1)) := by
  rw [drop_at h, skipGo, if_neg hc, if_pos (by simp), Nat.add_comm]
theorem skip_bl {S : List UInt8} {k : Nat} {c : UInt8} (h : S[k]? = some c) (h2 : isBl c = true) : skipGo false (S.drop k) = 1 + skipGo false (S.drop (k + 1)) := by
  by_cases h1 : c = 10
  · rw [h1] at h; exact skip_lf h
  · exact skip_blank h h1 h2
theorem skipped_calls (s : ByteArray) (p : Nat) (w : World) (hs : s.size ≤ 4000) (hp : p ≤ s.size) :
    Calls Try.prog 41 #[.string s, .int .i64 (p : Int)] w fun e w' => e = .returned (.int .i64 ((p + skipB (s.data.toList.drop p) : Nat) : Int)) ∧ w' = w := by
  generalize hN : p + skipB (s.data.toList.drop p) = N at *
  have HN : Hid (p + skipGo false (s.data.toList.drop p) = N) := hN
  clear hN
  go_enter Try.func41, Try.ntmps41
  go_wp2
  go_loop [1] (fun i => ∃ k : Nat, k ≤ s.size ∧ i = .int .i64 k ∧ k + skipGo false (s.data.toList.drop k) = N) (fun i => s.size - (intOf i).toNat)
  case atStart => exact ⟨p, hp, rfl, HN.out⟩
  case round =>
    obtain ⟨k, hk, rfl, hr⟩ := hrel
    have HR : Hid (k + skipGo false (s.data.toList.drop k) = N) := hr
    clear hr HN
    by_cases hlt : k < s.size
    · have hdk : decide ((k : Int) < (s.size : Int)) = true := by simp; omega
      have HG : Hid (s.data.toList[k]? = some s[k]) := getElem?_at s k hlt
      by_cases h35 : s[k] = 35
      · have hb : ((s[k].toNat : Int) == 35) = true := by rw [h35]; rfl
        have HI : Hid (k + skipGo true (s.data.toList.drop k) = N) := by
          have h := HR.out
          rw [skip_hash' (by rw [HG.out, h35])] at h
          exact h
        have H35 : Hid (s[k] = 35) := h35
        clear h35 HR HG
        go_wp2
        go_loop [1] (fun i => ∃ j : Nat, k ≤ j ∧ j ≤ s.size ∧ i = .int .i64 j ∧ j + skipGo true (s.data.toList.drop j) = N) (fun i => s.size - (intOf i).toNat)
        case atStart => exact ⟨k, Nat.le_refl _, hk, rfl, HI.out⟩
        case round =>
          obtain ⟨j, hkj, hj, rfl, hr⟩ := hrel
          have HR : Hid (j + skipGo true (s.data.toList.drop j) = N) := hr
          clear hr HI
          by_cases hjl : j < s.size
          · have hdj : decide ((j : Int) < (s.size : Int)) = true := by simp; omega
            have HG : Hid (s.data.toList[j]? = some s[j]) := getElem?_at s j hjl
            by_cases h10 : s[j] = 10
            · have hbj : ((s[j].toNat : Int) != 10) = false := by rw [h10]; rfl
              have hne : j ≠ k := fun e => by
                subst e
                have := H35.out
                rw [h10] at this
                exact absurd this (by decide)
              have HF : Hid (j + skipGo false (s.data.toList.drop j) = N) := by
                have h := HR.out
                rw [skip_any (by rw [HG.out, h10])] at h
                exact h
              clear h10 HG HR
              go_wp2
              go_round
              case rel => exact ⟨j, by omega, rfl, HF.out⟩
              case measure => simp [intOf]; omega
            · have hbj : ((s[j].toNat : Int) != 10) = true := by
                rw [bne_iff_ne]
                intro e
                exact h10 ((eqN _ 10 (by decide)).2 (by omega))
              have HS : Hid (j + 1 + skipGo true (s.data.toList.drop (j + 1)) = N) := by
                have h := HR.out
                rw [skip_in HG.out h10] at h
                show _ = _
                omega
              clear h10 HG HR
              go_wp2
              go_round
              case rel => exact ⟨j + 1, by omega, by omega, by go_num, HS.out⟩
              case measure => simp [intOf]; omega
          · have hdj : decide ((j : Int) < (s.size : Int)) = false := by simp; omega
            have HF : Hid (j + skipGo false (s.data.toList.drop j) = N) := by
              have h := HR.out
              rw [List.drop_eq_nil_of_le (by rw [size_toList]; omega)] at h ⊢
              exact h
            clear HR
            go_wp2
            go_round
            case rel => exact ⟨j, by omega, rfl, HF.out⟩
            case measure => simp [intOf]; omega
      · have hb : ((s[k].toNat : Int) == 35) = false := by
          rw [beq_eq_false_iff_ne]
          intro e
          exact h35 ((eqN _ 35 (by decide)).2 (by omega))
        cases hbl : isBl s[k] with
        | false =>
          have h32 : ((s[k].toNat : Int) != 32) = true := by
            rw [bne_iff_ne]; intro e
            rw [(eqN s[k] 32 (by decide)).2 (by omega)] at hbl; exact absurd hbl (by decide)
          have h9 : ((s[k].toNat : Int) != 9) = true := by
            rw [bne_iff_ne]; intro e
            rw [(eqN s[k] 9 (by decide)).2 (by omega)] at hbl; exact absurd hbl (by decide)
          have h10 : ((s[k].toNat : Int) != 10) = true := by
            rw [bne_iff_ne]; intro e
            rw [(eqN s[k] 10 (by decide)).2 (by omega)] at hbl; exact absurd hbl (by decide)
          have HE : Hid ((k : Int) = (N : Int)) := by
            have h := HR.out
            rw [skip_stop HG.out hbl h35] at h
            show _ = _
            omega
          clear hbl HG HR h35
          go_wp2
          go_ret
          exact ⟨ret_int HE.out, rfl⟩
        | true =>
          have hq : ((s[k].toNat : Int) != 32) = false ∨ (((s[k].toNat : Int) != 32) = true ∧ ((s[k].toNat : Int) != 9) = false) ∨ (((s[k].toNat : Int) != 32) = true ∧ ((s[k].toNat : Int) != 9) = true ∧ ((s[k].toNat : Int) != 10) = false) := by
            have hl := hbl
            simp only [isBl, Bool.or_eq_true, beq_iff_eq] at hl
            rcases hl with (h | h) | h <;> rw [h] <;> decide
          have HS : Hid (k + 1 + skipGo false (s.data.toList.drop (k + 1)) = N) := by
            have h := HR.out
            rw [skip_bl HG.out hbl] at h
            show _ = _
            omega
          clear hbl HG HR h35
          rcases hq with h1 | ⟨h1, h2⟩ | ⟨h1, h2, h3⟩ <;> (
            go_wp2
            go_round
            case rel => exact ⟨k + 1, by omega, by go_num, HS.out⟩
            case measure => simp [intOf]; omega)
    · have hdk : decide ((k : Int) < (s.size : Int)) = false := by simp; omega
      have HE : Hid ((k : Int) = (N : Int)) := by
        have h := HR.out
        rw [List.drop_eq_nil_of_le (by rw [size_toList]; omega)] at h
        simp only [skipGo] at h
        show _ = _
        omega
      clear HR
      go_wp2
      go_ret
      exact ⟨ret_int HE.out, rfl⟩
end Go.Proofs.Ytnnmhmlebffacaa
