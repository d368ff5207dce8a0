/-
  The walks of the document's own small functions: names, notes, letters, titles.
-/
import Derived.Test.YtcleejdlmamdhaaLeaf
namespace Go.Proofs.Ytcleejdlmamdhaa
open Go.RowKit

theorem nameB_bad (s : ByteArray) (h : s.size < 1 ∨ 64 < s.size) : nameB s.data.toList = false := by
  unfold nameB
  rw [size_toList]
  rcases h with h | h
  · rw [size_zero.2 (by omega)]; rfl
  · have : decide (s.size ≤ 64) = false := by simp; omega
    rw [this]; simp
theorem nameB_head (s : ByteArray) (h0 : 0 < s.size) (h : s[0] = 64 ∨ s[0] = 42 ∨ s[0] = 61) : nameB s.data.toList = false := by
  unfold nameB headOkB
  rw [head?_at s h0]
  rcases h with h | h | h <;> rw [h] <;> simp
theorem nameB_good (s : ByteArray) (h0 : 0 < s.size) (h1 : s.size ≤ 64) (h2 : s[0] ≠ 64) (h3 : s[0] ≠ 42) (h4 : s[0] ≠ 61) : nameB s.data.toList = allIn 33 126 s.data.toList := by
  unfold nameB headOkB
  rw [head?_at s h0, size_toList]
  have h5 : s.data.toList ≠ [] := fun e => by have := size_zero.1 e; omega
  simp [h1, h2, h3, h4, h5]
theorem byte_ne {c : UInt8} {n : Nat} (hn : n < 256) (h : ¬ (c.toNat : Int) = (n : Int)) : c ≠ UInt8.ofNat n := by
  intro e; apply h; rw [e]; simp; omega
theorem byte_is {c : UInt8} {n : Nat} (h : (c.toNat : Int) = (n : Int)) : c = UInt8.ofNat n := by
  apply UInt8.toNat_inj.1
  have := UInt8.toNat_lt c
  simp; omega

set_option maxHeartbeats 1000000 in
theorem refName_calls (s : ByteArray) (w : World) (hs : s.size ≤ maxLen) :
    Calls Try.prog 45 #[.string s] w fun e w' => e = .returned (.bool (nameB s.data.toList)) ∧ w' = w := by
  unfold maxLen at hs
  by_cases h0 : s.size < 1
  · have HE : Hid (nameB s.data.toList = false) := nameB_bad s (.inl h0)
    generalize nameB s.data.toList = N at *
    go_enter Try.func45, Try.ntmps45
    go_wp2
    go_ret
    exact ⟨ret_bool HE.out.symm, rfl⟩
  · by_cases h1 : 64 < s.size
    · have HE : Hid (nameB s.data.toList = false) := nameB_bad s (.inr h1)
      generalize nameB s.data.toList = N at *
      go_enter Try.func45, Try.ntmps45
      go_wp2
      go_ret
      exact ⟨ret_bool HE.out.symm, rfl⟩
    · have hp : 0 < s.size := by omega
      by_cases h2 : (s[0].toNat : Int) = 64
      · have HE : Hid (nameB s.data.toList = false) := nameB_head s hp (.inl (byte_is (n := 64) h2))
        have hd : ((s[0].toNat : Int) == 64) = true := by simp [h2]
        clear h2
        generalize nameB s.data.toList = N at *
        go_enter Try.func45, Try.ntmps45
        go_wp2
        go_ret
        exact ⟨ret_bool HE.out.symm, rfl⟩
      · have hd2 : ((s[0].toNat : Int) == 64) = false := by simp [h2]
        by_cases h3 : (s[0].toNat : Int) = 42
        · have HE : Hid (nameB s.data.toList = false) := nameB_head s hp (.inr (.inl (byte_is (n := 42) h3)))
          have hd : ((s[0].toNat : Int) == 42) = true := by simp [h3]
          clear h3
          generalize nameB s.data.toList = N at *
          go_enter Try.func45, Try.ntmps45
          go_wp2
          go_ret
          exact ⟨ret_bool HE.out.symm, rfl⟩
        · have hd3 : ((s[0].toNat : Int) == 42) = false := by simp [h3]
          by_cases h4 : (s[0].toNat : Int) = 61
          · have HE : Hid (nameB s.data.toList = false) := nameB_head s hp (.inr (.inr (byte_is (n := 61) h4)))
            have hd : ((s[0].toNat : Int) == 61) = true := by simp [h4]
            clear h4
            generalize nameB s.data.toList = N at *
            go_enter Try.func45, Try.ntmps45
            go_wp2
            go_ret
            exact ⟨ret_bool HE.out.symm, rfl⟩
          · have hd4 : ((s[0].toNat : Int) == 61) = false := by simp [h4]
            have HE : Hid (nameB s.data.toList = allIn 33 126 s.data.toList) := nameB_good s hp (by omega) (byte_ne (n := 64) (by decide) h2) (byte_ne (n := 42) (by decide) h3) (byte_ne (n := 61) (by decide) h4)
            have hda : decide ((s.size : Int) < 1) = false := by simp; omega
            have hdb : decide ((64 : Int) < s.size) = false := by simp; omega
            clear h2 h3 h4 h0 h1
            go_enter Try.func45, Try.ntmps45
            go_wp2
            go_loop [3] (fun i => ∃ k : Nat, k ≤ s.size ∧ i = .int .i64 k ∧ (s.data.toList.take k).all (inB 33 126) = true) (fun i => s.size - (intOf i).toNat)
            case atStart => exact ⟨0, Nat.zero_le _, rfl, by simp⟩
            case round =>
              obtain ⟨k, hk, rfl, hn⟩ := hrel
              have HN : Hid ((s.data.toList.take k).all (inB 33 126) = true) := hn
              clear hn
              by_cases hlt : k < s.size
              · by_cases ha : (s[k].toNat : Int) < 33
                · have hd : decide ((s[k].toNat : Int) < 33) = true := by simp; omega
                  have HP : Hid (inB 33 126 s[k] = false) := by simp [inB, Hid]; omega
                  go_wp2
                  go_ret
                  exact ⟨ret_bool (HE.out.trans (all_false_at s k hlt HP.out)).symm, rfl⟩
                · have hd : decide ((s[k].toNat : Int) < 33) = false := by simp; omega
                  by_cases hb : (126 : Int) < s[k].toNat
                  · have hd2 : decide ((126 : Int) < s[k].toNat) = true := by simp; omega
                    have HP : Hid (inB 33 126 s[k] = false) := by simp [inB, Hid]; omega
                    go_wp2
                    go_ret
                    exact ⟨ret_bool (HE.out.trans (all_false_at s k hlt HP.out)).symm, rfl⟩
                  · have hd2 : decide ((126 : Int) < s[k].toNat) = false := by simp; omega
                    have HP : Hid (inB 33 126 s[k] = true) := by simp [inB, Hid]; omega
                    go_wp2
                    go_round
                    case rel => exact ⟨k + 1, by omega, by go_num, all_take_succ s k hlt HN.out HP.out⟩
                    case measure => simp [intOf]; omega
              · go_wp2
                go_ret
                exact ⟨ret_bool (HE.out.trans (all_take_all s k (by omega) HN.out)).symm, rfl⟩

theorem noteB_long (s : ByteArray) (h : 64 < s.size) : noteB s.data.toList = false := by
  unfold noteB
  have : decide (s.data.toList.length ≤ 64) = false := by rw [size_toList]; simp; omega
  rw [this]; rfl
theorem noteB_blank (s : ByteArray) (h0 : 0 < s.size) (h : s[0] = 32) : noteB s.data.toList = false := by
  unfold noteB
  rw [head?_at s h0, h]; simp
theorem noteB_good (s : ByteArray) (h1 : s.size ≤ 64) (h : ∀ h0 : 0 < s.size, s[0] ≠ 32) : noteB s.data.toList = allIn 32 126 s.data.toList := by
  unfold noteB
  rw [size_toList]
  have h2 : s.data.toList.head? ≠ some 32 := by
    by_cases h0 : 0 < s.size
    · rw [head?_at s h0]; intro e; exact h h0 (by simpa using e)
    · rw [size_zero.2 (by omega)]; simp
  simp [h1, h2]

set_option maxHeartbeats 1000000 in
theorem refNote_calls (s : ByteArray) (w : World) (hs : s.size ≤ maxLen) :
    Calls Try.prog 46 #[.string s] w fun e w' => e = .returned (.bool (noteB s.data.toList)) ∧ w' = w := by
  unfold maxLen at hs
  by_cases h1 : 64 < s.size
  · have HE : Hid (noteB s.data.toList = false) := noteB_long s h1
    generalize noteB s.data.toList = N at *
    go_enter Try.func46, Try.ntmps46
    go_wp2
    go_ret
    exact ⟨ret_bool HE.out.symm, rfl⟩
  · have hdb : decide ((64 : Int) < s.size) = false := by simp; omega
    by_cases h0 : 0 < s.size
    · have hdz : decide ((0 : Int) < s.size) = true := by simp; omega
      by_cases h2 : (s[0].toNat : Int) = 32
      · have HE : Hid (noteB s.data.toList = false) := noteB_blank s h0 (byte_is (n := 32) h2)
        have hd : ((s[0].toNat : Int) == 32) = true := by simp [h2]
        clear h2
        generalize noteB s.data.toList = N at *
        go_enter Try.func46, Try.ntmps46
        go_wp2
        go_ret
        exact ⟨ret_bool HE.out.symm, rfl⟩
      · have hd0 : ((s[0].toNat : Int) == 32) = false := by simp [h2]
        have HE : Hid (noteB s.data.toList = allIn 32 126 s.data.toList) := noteB_good s (by omega) (fun _ => byte_ne (n := 32) (by decide) h2)
        clear h2
        go_enter Try.func46, Try.ntmps46
        go_wp2
        go_loop [3] (fun i => ∃ k : Nat, k ≤ s.size ∧ i = .int .i64 k ∧ (s.data.toList.take k).all (inB 32 126) = true) (fun i => s.size - (intOf i).toNat)
        case atStart => exact ⟨0, Nat.zero_le _, rfl, by simp⟩
        case round =>
          obtain ⟨k, hk, rfl, hn⟩ := hrel
          have HN : Hid ((s.data.toList.take k).all (inB 32 126) = true) := hn
          clear hn
          by_cases hlt : k < s.size
          · by_cases ha : (s[k].toNat : Int) < 32
            · have hd : decide ((s[k].toNat : Int) < 32) = true := by simp; omega
              have HP : Hid (inB 32 126 s[k] = false) := by simp [inB, Hid]; omega
              go_wp2
              go_ret
              exact ⟨ret_bool (HE.out.trans (all_false_at s k hlt HP.out)).symm, rfl⟩
            · have hd : decide ((s[k].toNat : Int) < 32) = false := by simp; omega
              by_cases hb : (126 : Int) < s[k].toNat
              · have hd2 : decide ((126 : Int) < s[k].toNat) = true := by simp; omega
                have HP : Hid (inB 32 126 s[k] = false) := by simp [inB, Hid]; omega
                go_wp2
                go_ret
                exact ⟨ret_bool (HE.out.trans (all_false_at s k hlt HP.out)).symm, rfl⟩
              · have hd2 : decide ((126 : Int) < s[k].toNat) = false := by simp; omega
                have HP : Hid (inB 32 126 s[k] = true) := by simp [inB, Hid]; omega
                go_wp2
                go_round
                case rel => exact ⟨k + 1, by omega, by go_num, all_take_succ s k hlt HN.out HP.out⟩
                case measure => simp [intOf]; omega
          · go_wp2
            go_ret
            exact ⟨ret_bool (HE.out.trans (all_take_all s k (by omega) HN.out)).symm, rfl⟩
    · have hdz : decide ((0 : Int) < s.size) = false := decide_eq_false (by omega)
      have HE : Hid (noteB s.data.toList = allIn 32 126 s.data.toList) := noteB_good s (by omega) (fun h => absurd h h0)
      go_enter Try.func46, Try.ntmps46
      go_wp2
      go_loop [3] (fun i => ∃ k : Nat, k ≤ s.size ∧ i = .int .i64 k ∧ (s.data.toList.take k).all (inB 32 126) = true) (fun i => s.size - (intOf i).toNat)
      case atStart => exact ⟨0, Nat.zero_le _, rfl, by simp⟩
      case round =>
        obtain ⟨k, hk, rfl, hn⟩ := hrel
        have HN : Hid ((s.data.toList.take k).all (inB 32 126) = true) := hn
        clear hn
        by_cases hlt : k < s.size
        · by_cases ha : (s[k].toNat : Int) < 32
          · have hd : decide ((s[k].toNat : Int) < 32) = true := by simp; omega
            have HP : Hid (inB 32 126 s[k] = false) := by simp [inB, Hid]; omega
            go_wp2
            go_ret
            exact ⟨ret_bool (HE.out.trans (all_false_at s k hlt HP.out)).symm, rfl⟩
          · have hd : decide ((s[k].toNat : Int) < 32) = false := by simp; omega
            by_cases hb : (126 : Int) < s[k].toNat
            · have hd2 : decide ((126 : Int) < s[k].toNat) = true := by simp; omega
              have HP : Hid (inB 32 126 s[k] = false) := by simp [inB, Hid]; omega
              go_wp2
              go_ret
              exact ⟨ret_bool (HE.out.trans (all_false_at s k hlt HP.out)).symm, rfl⟩
            · have hd2 : decide ((126 : Int) < s[k].toNat) = false := by simp; omega
              have HP : Hid (inB 32 126 s[k] = true) := by simp [inB, Hid]; omega
              go_wp2
              go_round
              case rel => exact ⟨k + 1, by omega, by go_num, all_take_succ s k hlt HN.out HP.out⟩
              case measure => simp [intOf]; omega
        · go_wp2
          go_ret
          exact ⟨ret_bool (HE.out.trans (all_take_all s k (by omega) HN.out)).symm, rfl⟩

/-- How many letters a text begins with. -/
def letN (l : List UInt8) : Nat := (l.takeWhile isLetB).length
theorem letN_le (l : List UInt8) : letN l ≤ l.length := by unfold letN; exact (List.takeWhile_sublist _).length_le
theorem letN_all (l : List UInt8) : letN l = l.length ↔ letsB l = true := by
  unfold letN letsB
  induction l with
  | nil => simp
  | cons a r ih =>
    by_cases h : isLetB a = true
    · simp only [List.takeWhile_cons, h, if_true, List.length_cons, List.all_cons, Bool.true_and]
      rw [← ih]; omega
    · simp [h]
theorem letN_at (s : ByteArray) (k : Nat) (h : (s.data.toList.take k).all isLetB = true) (hk : k ≤ s.size) (hn : ∀ h : k < s.size, isLetB s[k] = false) : letN s.data.toList = k := by
  unfold letN
  conv => lhs; rw [← List.take_append_drop k s.data.toList]
  rw [List.takeWhile_append_of_pos (fun a ha => List.all_eq_true.1 h a ha)]
  have e : (s.data.toList.drop k).takeWhile isLetB = [] := by
    by_cases hlt : k < s.size
    · rw [drop_cons s k hlt, List.takeWhile_cons, hn hlt]; rfl
    · rw [List.drop_of_length_le (by simp; omega)]; rfl
  rw [e]; simp; omega

theorem letters_calls (s : ByteArray) (w : World) (hs : s.size ≤ maxLen) :
    Calls Try.prog 24 #[.string s] w fun e w' => e = .returned (.int .i64 (letN s.data.toList : Int)) ∧ w' = w := by
  unfold maxLen at hs
  go_enter Try.func24, Try.ntmps24
  go_wp2
  go_loop [3] (fun i => ∃ k : Nat, k ≤ s.size ∧ i = .int .i64 k ∧ (s.data.toList.take k).all isLetB = true) (fun i => s.size - (intOf i).toNat)
  case atStart => exact ⟨0, Nat.zero_le _, rfl, by simp⟩
  case round =>
    obtain ⟨k, hk, rfl, hn⟩ := hrel
    have HN : Hid ((s.data.toList.take k).all isLetB = true) := hn
    clear hn
    by_cases hlt : k < s.size
    · cases hp : isLetB s[k] with
      | false =>
        have HP : Hid (isLetB s[k] = false) := hp
        go_wp2_with (go_at_call 38; refine (letter_calls _ _).mono ?_; rintro e w' ⟨rfl, rfl⟩)
        go_ret
        exact ⟨ret_int (by rw [letN_at s k HN.out (by omega) (fun _ => HP.out)]), rfl⟩
      | true =>
        have HP : Hid (isLetB s[k] = true) := hp
        go_wp2_with (go_at_call 38; refine (letter_calls _ _).mono ?_; rintro e w' ⟨rfl, rfl⟩)
        go_round
        case rel => exact ⟨k + 1, by omega, by go_num, all_take_succ s k hlt HN.out HP.out⟩
        case measure => simp [intOf]; omega
    · go_wp2
      go_ret
      exact ⟨ret_int (by rw [letN_at s k HN.out (by omega) (fun h => absurd h hlt)]), rfl⟩

/-! The document's title -/
theorem headB_at (c : UInt8) (s : ByteArray) (k : Nat) (h : c ∉ s.data.toList.take k) (hk : k ≤ s.size) (hn : ∀ h : k < s.size, s[k] = c) :
    headB c s.data.toList = s.data.toList.take k ∧ tailB c s.data.toList = s.data.toList.drop (k + 1) ∧ (c ∈ s.data.toList ↔ k < s.size) := by
  by_cases hlt : k < s.size
  · have e : s.data.toList = s.data.toList.take k ++ c :: s.data.toList.drop (k + 1) := by
      conv => lhs; rw [← List.take_append_drop k s.data.toList, drop_cons s k hlt, hn hlt]
    have h1 : ∀ (a r : List UInt8), c ∉ a → headB c (a ++ c :: r) = a ∧ tailB c (a ++ c :: r) = r := by
      intro a r ha
      induction a with
      | nil => exact ⟨headB_cons_eq .., tailB_cons_eq ..⟩
      | cons d t ih =>
        have hd : d ≠ c := fun e => ha (by simp [e])
        have iht := ih (fun hm => ha (List.mem_cons_of_mem _ hm))
        rw [List.cons_append, headB_cons_ne hd, tailB_cons_ne hd, iht.1, iht.2]; exact ⟨rfl, rfl⟩
    have h2 := h1 _ (s.data.toList.drop (k + 1)) h
    rw [← e] at h2
    exact ⟨h2.1, h2.2, fun _ => hlt, fun _ => by rw [e]; simp⟩
  · have h' : c ∉ s.data.toList := by rwa [List.take_of_length_le (by simp; omega)] at h
    rw [headB_not_mem h', tailB_not_mem h', List.take_of_length_le (by simp; omega), List.drop_of_length_le (by simp; omega)]
    exact ⟨rfl, rfl, fun hm => absurd hm h', fun h => absurd h hlt⟩

def TitleRefPost (s : ByteArray) (w : World) (e : Ending) (w' : World) : Prop :=
  ∃ a b, e = .returned (.tuple #[.string a, .string b, .bool (titleOkB s.data.toList)]) ∧ a.data.toList = headB 32 s.data.toList ∧ b.data.toList = tailB 32 s.data.toList ∧ w' = w

set_option maxHeartbeats 1000000 in
theorem refTitle_calls (s : ByteArray) (w : World) (hs : s.size ≤ maxLen) :
    Calls Try.prog 37 #[.string s] w fun e w' => TitleRefPost s w e w' := by
  have HS : Hid (s.size ≤ maxLen) := hs
  unfold maxLen at hs
  go_enter Try.func37, Try.ntmps37
  go_wp2
  go_loop [5] (fun i => ∃ k : Nat, k ≤ s.size ∧ i = .int .i64 k ∧ (32 : UInt8) ∉ s.data.toList.take k) (fun i => s.size - (intOf i).toNat)
  case atStart => exact ⟨0, Nat.zero_le _, rfl, by simp⟩
  case round =>
    obtain ⟨k, hk, rfl, hn⟩ := hrel
    have HN : Hid ((32 : UInt8) ∉ s.data.toList.take k) := hn
    clear hn
    by_cases hlt : k < s.size
    · have hdl : decide ((k : Int) < s.size) = true := by simp; omega
      by_cases hc : (s[k].toNat : Int) = 32
      · have hd : ((s[k].toNat : Int) == 32) = true := by simp [hc]
        have HH : Hid (headB 32 s.data.toList = s.data.toList.take k ∧ tailB 32 s.data.toList = s.data.toList.drop (k + 1) ∧ (32 ∈ s.data.toList ↔ k < s.size)) := headB_at 32 s k HN.out hk (fun _ => byte_is (n := 32) hc)
        clear hc
        have h1 : (s.extract 0 k).data.toList = headB 32 s.data.toList := by rw [extract_list, HH.out.1]; simp
        have h2 : (s.extract (k + 1) s.size).data.toList = tailB 32 s.data.toList := by rw [extract_list, HH.out.2.1, List.take_of_length_le (by simp)]
        have HA : Hid (∀ w, Calls Try.prog 45 #[.string (s.extract 0 k)] w fun e w' => e = .returned (.bool (nameB (headB 32 s.data.toList))) ∧ w' = w) := fun w => by
          rw [← h1]; exact refName_calls _ w (by rw [← size_toList, h1]; exact Nat.le_trans (headB_length_le _ _) (by rw [size_toList]; exact HS.out))
        have HB : Hid (∀ w, Calls Try.prog 46 #[.string (s.extract (k + 1) s.size)] w fun e w' => e = .returned (.bool (noteB (tailB 32 s.data.toList))) ∧ w' = w) := fun w => by
          rw [← h2]; exact refNote_calls _ w (by rw [← size_toList, h2]; exact Nat.le_trans (tailB_length_le _ _) (by rw [size_toList]; exact Nat.le_trans (Nat.sub_le _ _) HS.out))
        have HV : Hid (titleOkB s.data.toList = (nameB (headB 32 s.data.toList) && (noteB (tailB 32 s.data.toList) && !decide ((s.extract (k + 1) s.size).toList = [])))) := by
          show titleOkB _ = _
          have h3 : hasB 32 s.data.toList = true := by simpa [hasB] using HH.out.2.2.2 hlt
          rw [ByteArray.toList_eq, h2]; unfold titleOkB; rw [h3]; rfl
        have H12 : Hid ((s.extract 0 k).data.toList = headB 32 s.data.toList ∧ (s.extract (k + 1) s.size).data.toList = tailB 32 s.data.toList) := ⟨h1, h2⟩
        clear h1 h2 HH HN
        generalize nameB (headB 32 s.data.toList) = N at *
        generalize noteB (tailB 32 s.data.toList) = T at *
        generalize hok : titleOkB s.data.toList = ok at *
        have HO : Hid (titleOkB s.data.toList = ok) := hok
        clear hok
        have hne : ((k : Int) == (s.size : Int)) = false := by simp; omega
        go_wp2_with (first
          | (go_at_call 45; refine (HA.out _).mono ?_; rintro e w' ⟨rfl, rfl⟩)
          | (go_at_call 46; refine (HB.out _).mono ?_; rintro e w' ⟨rfl, rfl⟩))
        all_goals go_ret3
        all_goals (refine ⟨_, _, ret3 ?_, H12.out.1, H12.out.2, rfl⟩; rw [HO.out, HV.out]; clear HO HV H12 HA HB; generalize (s.extract (k + 1) s.size).toList = X at *; cases X <;> simp_all)
      · have hd : ((s[k].toNat : Int) == 32) = false := by simp [hc]
        have HC : Hid (¬ (s[k].toNat : Int) = 32) := hc
        clear hc
        go_wp2
        go_round
        case rel =>
          refine ⟨k + 1, by omega, by go_num, ?_⟩
          rw [take_snoc s k hlt]
          intro hm
          rcases List.mem_append.1 hm with h | h
          · exact HN.out h
          · exact byte_ne (n := 32) (by decide) HC.out (List.mem_singleton.1 h).symm
        case measure => simp [intOf]; omega
    · have hdl : decide ((k : Int) < s.size) = false := by simp; omega
      have HH : Hid (headB 32 s.data.toList = s.data.toList.take k ∧ tailB 32 s.data.toList = s.data.toList.drop (k + 1) ∧ (32 ∈ s.data.toList ↔ k < s.size)) := headB_at 32 s k HN.out hk (fun h => absurd h hlt)
      have hks : k = s.size := by omega
      subst hks
      have HA : Hid (∀ w, Calls Try.prog 45 #[.string s] w fun e w' => e = .returned (.bool (nameB s.data.toList)) ∧ w' = w) := fun w => refName_calls _ w HS.out
      have HT : Hid (headB 32 s.data.toList = s.data.toList ∧ tailB 32 s.data.toList = [] ∧ titleOkB s.data.toList = nameB s.data.toList) := by
        have e1 : headB 32 s.data.toList = s.data.toList := by rw [HH.out.1, List.take_of_length_le (by simp)]
        have e2 : tailB 32 s.data.toList = [] := by rw [HH.out.2.1, List.drop_of_length_le (by simp)]
        refine ⟨e1, e2, ?_⟩
        have h3 : hasB 32 s.data.toList = false := by
          have := HH.out.2.2
          simp only [hasB, decide_eq_false_iff_not]; intro hm; have := this.1 hm; omega
        unfold titleOkB; rw [e1, e2, h3]; simp [noteB, allIn]
      clear HH HN
      generalize nameB s.data.toList = N at *
      go_wp2_with (go_at_call 45; refine (HA.out _).mono ?_; rintro e w' ⟨rfl, rfl⟩)
      go_ret3
      exact ⟨s, ByteArray.empty, ret3 HT.out.2.2.symm, HT.out.1.symm, HT.out.2.1.symm, rfl⟩
end Go.Proofs.Ytcleejdlmamdhaa
