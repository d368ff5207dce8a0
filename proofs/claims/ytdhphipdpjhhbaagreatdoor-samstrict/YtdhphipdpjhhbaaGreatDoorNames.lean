/-
  The walks of the program's and the document's words: letters, names, notes, signs.
-/
import Derived.Test.YtdhphipdpjhhbaaGreatDoorMem
import Derived.Test.YtdhphipdpjhhbaaGreatDoorShelf
import Derived.Deep.QuietTactic
namespace Go.Proofs.YtdhphipdpjhhbaaGreatDoor
open Go.RowKit

theorem isLetter_calls (c : UInt8) (w : World) :
    Calls Tryz.prog 97 #[.int .u8 (c.toNat : Int)] w fun e w' => e = .returned (.bool (isLetB c)) ∧ w' = w := by
  have hb := UInt8.toNat_lt c
  go_enter Tryz.func97, Tryz.ntmps97
  go_wp2
  all_goals (go_ret; exact ⟨ret_bool (by rw [Bool.eq_iff_iff]; simp [isLetB]; omega), rfl⟩)
theorem letter_calls (c : UInt8) (w : World) :
    Calls Tryz.prog 76 #[.int .u8 (c.toNat : Int)] w fun e w' => e = .returned (.bool (isLetB c)) ∧ w' = w := by
  have hb := UInt8.toNat_lt c
  go_enter Tryz.func76, Tryz.ntmps76
  go_wp2
  all_goals (go_ret; exact ⟨ret_bool (by rw [Bool.eq_iff_iff]; simp [isLetB]; omega), rfl⟩)
theorem areLetters_calls (s : ByteArray) (w : World) (hs : s.size ≤ maxLen) :
    Calls Tryz.prog 78 #[.string s] w fun e w' => e = .returned (.bool (letsB s.data.toList)) ∧ w' = w := by
  unfold maxLen at hs
  go_enter Tryz.func78, Tryz.ntmps78
  go_wp2
  go_loop [6] (fun i => ∃ k : Nat, k ≤ s.size ∧ i = .int .i64 k ∧ (s.data.toList.take k).all isLetB = true) (fun i => s.size - (intOf i).toNat)
  case atStart => exact ⟨0, Nat.zero_le _, rfl, by simp⟩
  case round =>
    obtain ⟨k, hk, rfl, hn⟩ := hrel
    have HN : Hid ((s.data.toList.take k).all isLetB = true) := hn
    clear hn
    by_cases hlt : k < s.size
    · cases hp : isLetB s[k] with
      | false =>
        have HP : Hid (isLetB s[k] = false) := hp
        go_wp2_with (go_at_call 97; refine (isLetter_calls _ _).mono ?_; rintro e w' ⟨rfl, rfl⟩)
        go_ret
        exact ⟨ret_bool (all_false_at s k hlt HP.out).symm, rfl⟩
      | true =>
        have HP : Hid (isLetB s[k] = true) := hp
        go_wp2_with (go_at_call 97; refine (isLetter_calls _ _).mono ?_; rintro e w' ⟨rfl, rfl⟩)
        go_round
        case rel => exact ⟨k + 1, by omega, by go_num, all_take_succ s k hlt HN.out HP.out⟩
        case measure => simp [intOf]; omega
    · go_wp2
      go_ret
      exact ⟨ret_bool (all_take_all s k (by omega) HN.out).symm, rfl⟩
theorem between_calls (s : ByteArray) (lo hi : Nat) (w : World) (hs : s.size ≤ maxLen) :
    Calls Tryz.prog 79 #[.string s, .int .u8 (lo : Int), .int .u8 (hi : Int)] w fun e w' => e = .returned (.bool (allIn lo hi s.data.toList)) ∧ w' = w := by
  unfold maxLen at hs
  go_enter Tryz.func79, Tryz.ntmps79
  go_wp2
  go_loop [10] (fun i => ∃ k : Nat, k ≤ s.size ∧ i = .int .i64 k ∧ (s.data.toList.take k).all (inB lo hi) = true) (fun i => s.size - (intOf i).toNat)
  case atStart => exact ⟨0, Nat.zero_le _, rfl, by simp⟩
  case round =>
    obtain ⟨k, hk, rfl, hn⟩ := hrel
    have HN : Hid ((s.data.toList.take k).all (inB lo hi) = true) := hn
    clear hn
    by_cases hlt : k < s.size
    · by_cases ha : (s[k].toNat : Int) < lo
      · have hd : decide ((s[k].toNat : Int) < lo) = true := by simp; omega
        have HP : Hid (inB lo hi s[k] = false) := by simp [inB, Hid]; omega
        go_wp2
        go_ret
        exact ⟨ret_bool (all_false_at s k hlt HP.out).symm, rfl⟩
      · have hd : decide ((s[k].toNat : Int) < lo) = false := by simp; omega
        by_cases hb : (hi : Int) < s[k].toNat
        · have hd2 : decide ((hi : Int) < s[k].toNat) = true := by simp; omega
          have HP : Hid (inB lo hi s[k] = false) := by simp [inB, Hid]; omega
          go_wp2
          go_ret
          exact ⟨ret_bool (all_false_at s k hlt HP.out).symm, rfl⟩
        · have hd2 : decide ((hi : Int) < s[k].toNat) = false := by simp; omega
          have HP : Hid (inB lo hi s[k] = true) := by simp [inB, Hid]; omega
          go_wp2
          go_round
          case rel => exact ⟨k + 1, by omega, by go_num, all_take_succ s k hlt HN.out HP.out⟩
          case measure => simp [intOf]; omega
    · go_wp2
      go_ret
      exact ⟨ret_bool (all_take_all s k (by omega) HN.out).symm, rfl⟩
theorem toList_nil {s : ByteArray} : s.toList = [] ↔ s.data.toList = [] := by rw [ByteArray.toList_eq]
theorem toList_size {s : ByteArray} (h : ¬ s.toList = []) : 0 < s.size := by
  rcases Nat.eq_zero_or_pos s.size with h0 | h0
  · exact absurd (toList_nil.2 (size_zero.2 h0)) h
  · exact h0
def idx3 (c : UInt8) : Int := Lib.indexByte [64, 42, 61] c
theorem idx3_calls (c : UInt8) (w : World) :
    Calls Tryz.prog 77 #[.string ⟨#[64, 42, 61]⟩, .int .u8 (c.toNat : Int)] w fun e w' => e = .returned (.int .i64 (idx3 c)) ∧ w' = w := by
  refine (Tryz.strings_IndexByte _ _ _).mono ?_
  rintro e w' ⟨rfl, rfl⟩
  refine ⟨ret_int ?_, rfl⟩
  simp [idx3]
theorem idx3_head (s : ByteArray) (h : 0 < s.size) : headOkB s.data.toList = decide (idx3 s[0] < 0) := by
  unfold headOkB idx3
  rw [head?_at s h]
  generalize s[0] = c
  by_cases h1 : (64 : UInt8) = c
  · subst h1; decide
  by_cases h2 : (42 : UInt8) = c
  · subst h2; decide
  by_cases h3 : (61 : UInt8) = c
  · subst h3; decide
  have e : Lib.indexByte [64, 42, 61] c = -1 := indexByte_none _ _ (by simp [Ne.symm h1, Ne.symm h2, Ne.symm h3])
  rw [e]
  simp [Ne.symm h1, Ne.symm h2, Ne.symm h3]
theorem areSigns_calls (s : ByteArray) (w : World) (hs : s.size ≤ maxLen) :
    Calls Tryz.prog 52 #[.string s] w fun e w' => e = .returned (.bool (signsB s.data.toList)) ∧ w' = w := by
  have HB : Hid (∀ w, Calls Tryz.prog 79 #[.string s, .int .u8 33, .int .u8 126] w fun e w' => e = .returned (.bool (signsB s.data.toList)) ∧ w' = w) := fun w => between_calls s 33 126 w hs
  clear hs
  go_enter Tryz.func52, Tryz.ntmps52
  go_wp2_with (go_at_call 79; refine (HB.out _).mono ?_; rintro e w' ⟨rfl, rfl⟩)
  go_ret
  exact ⟨rfl, rfl⟩
theorem isName_calls (s : ByteArray) (w : World) (hs : s.size ≤ maxLen) :
    Calls Tryz.prog 50 #[.string s] w fun e w' => e = .returned (.bool (nameB s.data.toList)) ∧ w' = w := by
  have HB : Hid (∀ w, Calls Tryz.prog 52 #[.string s] w fun e w' => e = .returned (.bool (allIn 33 126 s.data.toList)) ∧ w' = w) := fun w => areSigns_calls s w hs
  unfold maxLen at hs
  by_cases h0 : s.toList = []
  · have HE : Hid (nameB s.data.toList = false) := by
      unfold nameB; rw [toList_nil.1 h0]; rfl
    go_enter Tryz.func50, Tryz.ntmps50
    go_wp2
    go_ret
    exact ⟨ret_bool HE.out.symm, rfl⟩
  · have hp := toList_size h0
    have HN : Hid (nameB s.data.toList = (decide (s.size ≤ 64) && (allIn 33 126 s.data.toList && decide (idx3 s[0] < 0)))) := by
      have h0' : s.data.toList ≠ [] := fun e => h0 (toList_nil.2 e)
      show nameB _ = _
      unfold nameB
      rw [idx3_head s hp, size_toList]
      simp [h0']
    generalize nameB s.data.toList = N at *
    generalize allIn 33 126 s.data.toList = A at *
    generalize hix : idx3 s[0] = ix at *
    have HX : Hid (idx3 s[0] = ix) := hix
    clear hix
    go_enter Tryz.func50, Tryz.ntmps50
    go_wp2_with (first
      | (go_at_call 52; refine (HB.out _).mono ?_; rintro e w' ⟨rfl, rfl⟩)
      | (go_at_call 77; refine (idx3_calls _ _).mono ?_; rw [HX.out]; rintro e w' ⟨rfl, rfl⟩))
    all_goals (go_ret; refine ⟨ret_bool ?_, rfl⟩; rw [HN.out, Bool.eq_iff_iff]; clear HN; simp_all <;> (intros; omega))
theorem isNote_calls (s : ByteArray) (w : World) (hs : s.size ≤ maxLen) :
    Calls Tryz.prog 91 #[.string s] w fun e w' => e = .returned (.bool (noteB s.data.toList)) ∧ w' = w := by
  have HB : Hid (∀ w, Calls Tryz.prog 79 #[.string s, .int .u8 32, .int .u8 126] w fun e w' => e = .returned (.bool (allIn 32 126 s.data.toList)) ∧ w' = w) := fun w => between_calls s 32 126 w hs
  unfold maxLen at hs
  have HP : Hid (Lib.hasPrefix s.data.toList [32] = decide (s.data.toList.head? = some 32)) := by
    show Lib.hasPrefix _ _ = _
    unfold Lib.hasPrefix
    cases s.data.toList with
    | nil => rfl
    | cons a r =>
      by_cases h : a = 32
      · subst h; simp [List.isPrefixOf]
      · simp [List.isPrefixOf, h, Ne.symm h]
  have HN : Hid (noteB s.data.toList = (decide (s.size ≤ 64) && (allIn 32 126 s.data.toList && !Lib.hasPrefix s.data.toList [32]))) := by
    show noteB _ = _
    rw [HP.out]
    unfold noteB
    rw [size_toList]
    simp
  have HQ : Hid (∀ w, Calls Tryz.prog 73 #[.string s, .string ⟨#[32]⟩] w fun e w' => e = .returned (.bool (Lib.hasPrefix s.data.toList [32])) ∧ w' = w) := fun w => Tryz.strings_HasPrefix s ⟨#[32]⟩ w
  generalize noteB s.data.toList = N at *
  generalize allIn 32 126 s.data.toList = A at *
  generalize Lib.hasPrefix s.data.toList [32] = Hp at *
  clear HP
  go_enter Tryz.func91, Tryz.ntmps91
  go_wp2_with (first
    | (go_at_call 79; refine (HB.out _).mono ?_; rintro e w' ⟨rfl, rfl⟩)
    | (go_at_call 73; refine (HQ.out _).mono ?_; rintro e w' ⟨rfl, rfl⟩))
  all_goals (go_ret; refine ⟨ret_bool ?_, rfl⟩; rw [HN.out, Bool.eq_iff_iff]; clear HN; simp_all <;> (intros; omega))

/-! Cutting a text at a byte -/
theorem nameB_bad (s : ByteArray) (h : s.size < 1 ∨ 64 < s.size) : nameB s.data.toList = false := by
  unfold nameB
  rw [size_toList]
  rcases h with h | h
  · rw [size_zero.2 (by omega)]; rfl
  · have : decide (s.size ≤ 64) = false := by simp; omega
    rw [this]; simp
theorem nameB_head (s : ByteArray) (h0 : 0 < s.size) (h : s[0] = 64 ∨ s[0] = 42 ∨ s[0] = 61) : nameB s.data.toList = false := by
  unfold nameB headOkB
  rw [head?_at s h0]
  rcases h with h | h | h <;> rw [h] <;> simp
theorem nameB_good (s : ByteArray) (h0 : 0 < s.size) (h1 : s.size ≤ 64) (h2 : s[0] ≠ 64) (h3 : s[0] ≠ 42) (h4 : s[0] ≠ 61) : nameB s.data.toList = allIn 33 126 s.data.toList := by
  unfold nameB headOkB
  rw [head?_at s h0, size_toList]
  have h5 : s.data.toList ≠ [] := fun e => by have := size_zero.1 e; omega
  simp [h1, h2, h3, h4, h5]
theorem byte_ne {c : UInt8} {n : Nat} (hn : n < 256) (h : ¬ (c.toNat : Int) = (n : Int)) : c ≠ UInt8.ofNat n := by
  intro e; apply h; rw [e]; simp; omega
theorem byte_is {c : UInt8} {n : Nat} (h : (c.toNat : Int) = (n : Int)) : c = UInt8.ofNat n := by
  apply UInt8.toNat_inj.1
  have := UInt8.toNat_lt c
  simp; omega
set_option maxHeartbeats 1000000 in
theorem refName_calls (s : ByteArray) (w : World) (hs : s.size ≤ maxLen) :
    Calls Tryz.prog 46 #[.string s] w fun e w' => e = .returned (.bool (nameB s.data.toList)) ∧ w' = w := by
  unfold maxLen at hs
  by_cases h0 : s.size < 1
  · have HE : Hid (nameB s.data.toList = false) := nameB_bad s (.inl h0)
    generalize nameB s.data.toList = N at *
    go_enter Tryz.func46, Tryz.ntmps46
    go_wp2
    go_ret
    exact ⟨ret_bool HE.out.symm, rfl⟩
  · by_cases h1 : 64 < s.size
    · have HE : Hid (nameB s.data.toList = false) := nameB_bad s (.inr h1)
      generalize nameB s.data.toList = N at *
      go_enter Tryz.func46, Tryz.ntmps46
      go_wp2
      go_ret
      exact ⟨ret_bool HE.out.symm, rfl⟩
    · have hp : 0 < s.size := by omega
      by_cases h2 : (s[0].toNat : Int) = 64
      · have HE : Hid (nameB s.data.toList = false) := nameB_head s hp (.inl (byte_is (n := 64) h2))
        have hd : ((s[0].toNat : Int) == 64) = true := by simp [h2]
        clear h2
        generalize nameB s.data.toList = N at *
        go_enter Tryz.func46, Tryz.ntmps46
        go_wp2
        go_ret
        exact ⟨ret_bool HE.out.symm, rfl⟩
      · have hd2 : ((s[0].toNat : Int) == 64) = false := by simp [h2]
        by_cases h3 : (s[0].toNat : Int) = 42
        · have HE : Hid (nameB s.data.toList = false) := nameB_head s hp (.inr (.inl (byte_is (n := 42) h3)))
          have hd : ((s[0].toNat : Int) == 42) = true := by simp [h3]
          clear h3
          generalize nameB s.data.toList = N at *
          go_enter Tryz.func46, Tryz.ntmps46
          go_wp2
          go_ret
          exact ⟨ret_bool HE.out.symm, rfl⟩
        · have hd3 : ((s[0].toNat : Int) == 42) = false := by simp [h3]
          by_cases h4 : (s[0].toNat : Int) = 61
          · have HE : Hid (nameB s.data.toList = false) := nameB_head s hp (.inr (.inr (byte_is (n := 61) h4)))
            have hd : ((s[0].toNat : Int) == 61) = true := by simp [h4]
            clear h4
            generalize nameB s.data.toList = N at *
            go_enter Tryz.func46, Tryz.ntmps46
            go_wp2
            go_ret
            exact ⟨ret_bool HE.out.symm, rfl⟩
          · have hd4 : ((s[0].toNat : Int) == 61) = false := by simp [h4]
            have HE : Hid (nameB s.data.toList = allIn 33 126 s.data.toList) := nameB_good s hp (by omega) (byte_ne (n := 64) (by decide) h2) (byte_ne (n := 42) (by decide) h3) (byte_ne (n := 61) (by decide) h4)
            have hda : decide ((s.size : Int) < 1) = false := by simp; omega
            have hdb : decide ((64 : Int) < s.size) = false := by simp; omega
            clear h2 h3 h4 h0 h1
            go_enter Tryz.func46, Tryz.ntmps46
            go_wp2
            go_loop [3] (fun i => ∃ k : Nat, k ≤ s.size ∧ i = .int .i64 k ∧ (s.data.toList.take k).all (inB 33 126) = true) (fun i => s.size - (intOf i).toNat)
            case atStart => exact ⟨0, Nat.zero_le _, rfl, by simp⟩
            case round =>
              obtain ⟨k, hk, rfl, hn⟩ := hrel
              have HN : Hid ((s.data.toList.take k).all (inB 33 126) = true) := hn
              clear hn
              by_cases hlt : k < s.size
              · by_cases ha : (s[k].toNat : Int) < 33
                · have hd : decide ((s[k].toNat : Int) < 33) = true := by simp; omega
                  have HP : Hid (inB 33 126 s[k] = false) := by simp [inB, Hid]; omega
                  go_wp2
                  go_ret
                  exact ⟨ret_bool (HE.out.trans (all_false_at s k hlt HP.out)).symm, rfl⟩
                · have hd : decide ((s[k].toNat : Int) < 33) = false := by simp; omega
                  by_cases hb : (126 : Int) < s[k].toNat
                  · have hd2 : decide ((126 : Int) < s[k].toNat) = true := by simp; omega
                    have HP : Hid (inB 33 126 s[k] = false) := by simp [inB, Hid]; omega
                    go_wp2
                    go_ret
                    exact ⟨ret_bool (HE.out.trans (all_false_at s k hlt HP.out)).symm, rfl⟩
                  · have hd2 : decide ((126 : Int) < s[k].toNat) = false := by simp; omega
                    have HP : Hid (inB 33 126 s[k] = true) := by simp [inB, Hid]; omega
                    go_wp2
                    go_round
                    case rel => exact ⟨k + 1, by omega, by go_num, all_take_succ s k hlt HN.out HP.out⟩
                    case measure => simp [intOf]; omega
              · go_wp2
                go_ret
                exact ⟨ret_bool (HE.out.trans (all_take_all s k (by omega) HN.out)).symm, rfl⟩
theorem noteB_long (s : ByteArray) (h : 64 < s.size) : noteB s.data.toList = false := by
  unfold noteB
  have : decide (s.data.toList.length ≤ 64) = false := by rw [size_toList]; simp; omega
  rw [this]; rfl
theorem noteB_blank (s : ByteArray) (h0 : 0 < s.size) (h : s[0] = 32) : noteB s.data.toList = false := by
  unfold noteB
  rw [head?_at s h0, h]; simp
theorem noteB_good (s : ByteArray) (h1 : s.size ≤ 64) (h : ∀ h0 : 0 < s.size, s[0] ≠ 32) : noteB s.data.toList = allIn 32 126 s.data.toList := by
  unfold noteB
  rw [size_toList]
  have h2 : s.data.toList.head? ≠ some 32 := by
    by_cases h0 : 0 < s.size
    · rw [head?_at s h0]; intro e; exact h h0 (by simpa using e)
    · rw [size_zero.2 (by omega)]; simp
  simp [h1, h2]
set_option maxHeartbeats 1000000 in
theorem refNote_calls (s : ByteArray) (w : World) (hs : s.size ≤ maxLen) :
    Calls Tryz.prog 71 #[.string s] w fun e w' => e = .returned (.bool (noteB s.data.toList)) ∧ w' = w := by
  unfold maxLen at hs
  by_cases h1 : 64 < s.size
  · have HE : Hid (noteB s.data.toList = false) := noteB_long s h1
    generalize noteB s.data.toList = N at *
    go_enter Tryz.func71, Tryz.ntmps71
    go_wp2
    go_ret
    exact ⟨ret_bool HE.out.symm, rfl⟩
  · have hdb : decide ((64 : Int) < s.size) = false := by simp; omega
    by_cases h0 : 0 < s.size
    · have hdz : decide ((0 : Int) < s.size) = true := by simp; omega
      by_cases h2 : (s[0].toNat : Int) = 32
      · have HE : Hid (noteB s.data.toList = false) := noteB_blank s h0 (byte_is (n := 32) h2)
        have hd : ((s[0].toNat : Int) == 32) = true := by simp [h2]
        clear h2
        generalize noteB s.data.toList = N at *
        go_enter Tryz.func71, Tryz.ntmps71
        go_wp2
        go_ret
        exact ⟨ret_bool HE.out.symm, rfl⟩
      · have hd0 : ((s[0].toNat : Int) == 32) = false := by simp [h2]
        have HE : Hid (noteB s.data.toList = allIn 32 126 s.data.toList) := noteB_good s (by omega) (fun _ => byte_ne (n := 32) (by decide) h2)
        clear h2
        go_enter Tryz.func71, Tryz.ntmps71
        go_wp2
        go_loop [3] (fun i => ∃ k : Nat, k ≤ s.size ∧ i = .int .i64 k ∧ (s.data.toList.take k).all (inB 32 126) = true) (fun i => s.size - (intOf i).toNat)
        case atStart => exact ⟨0, Nat.zero_le _, rfl, by simp⟩
        case round =>
          obtain ⟨k, hk, rfl, hn⟩ := hrel
          have HN : Hid ((s.data.toList.take k).all (inB 32 126) = true) := hn
          clear hn
          by_cases hlt : k < s.size
          · by_cases ha : (s[k].toNat : Int) < 32
            · have hd : decide ((s[k].toNat : Int) < 32) = true := by simp; omega
              have HP : Hid (inB 32 126 s[k] = false) := by simp [inB, Hid]; omega
              go_wp2
              go_ret
              exact ⟨ret_bool (HE.out.trans (all_false_at s k hlt HP.out)).symm, rfl⟩
            · have hd : decide ((s[k].toNat : Int) < 32) = false := by simp; omega
              by_cases hb : (126 : Int) < s[k].toNat
              · have hd2 : decide ((126 : Int) < s[k].toNat) = true := by simp; omega
                have HP : Hid (inB 32 126 s[k] = false) := by simp [inB, Hid]; omega
                go_wp2
                go_ret
                exact ⟨ret_bool (HE.out.trans (all_false_at s k hlt HP.out)).symm, rfl⟩
              · have hd2 : decide ((126 : Int) < s[k].toNat) = false := by simp; omega
                have HP : Hid (inB 32 126 s[k] = true) := by simp [inB, Hid]; omega
                go_wp2
                go_round
                case rel => exact ⟨k + 1, by omega, by go_num, all_take_succ s k hlt HN.out HP.out⟩
                case measure => simp [intOf]; omega
          · go_wp2
            go_ret
            exact ⟨ret_bool (HE.out.trans (all_take_all s k (by omega) HN.out)).symm, rfl⟩
    · have hdz : decide ((0 : Int) < s.size) = false := decide_eq_false (by omega)
      have HE : Hid (noteB s.data.toList = allIn 32 126 s.data.toList) := noteB_good s (by omega) (fun h => absurd h h0)
      go_enter Tryz.func71, Tryz.ntmps71
      go_wp2
      go_loop [3] (fun i => ∃ k : Nat, k ≤ s.size ∧ i = .int .i64 k ∧ (s.data.toList.take k).all (inB 32 126) = true) (fun i => s.size - (intOf i).toNat)
      case atStart => exact ⟨0, Nat.zero_le _, rfl, by simp⟩
      case round =>
        obtain ⟨k, hk, rfl, hn⟩ := hrel
        have HN : Hid ((s.data.toList.take k).all (inB 32 126) = true) := hn
        clear hn
        by_cases hlt : k < s.size
        · by_cases ha : (s[k].toNat : Int) < 32
          · have hd : decide ((s[k].toNat : Int) < 32) = true := by simp; omega
            have HP : Hid (inB 32 126 s[k] = false) := by simp [inB, Hid]; omega
            go_wp2
            go_ret
            exact ⟨ret_bool (HE.out.trans (all_false_at s k hlt HP.out)).symm, rfl⟩
          · have hd : decide ((s[k].toNat : Int) < 32) = false := by simp; omega
            by_cases hb : (126 : Int) < s[k].toNat
            · have hd2 : decide ((126 : Int) < s[k].toNat) = true := by simp; omega
              have HP : Hid (inB 32 126 s[k] = false) := by simp [inB, Hid]; omega
              go_wp2
              go_ret
              exact ⟨ret_bool (HE.out.trans (all_false_at s k hlt HP.out)).symm, rfl⟩
            · have hd2 : decide ((126 : Int) < s[k].toNat) = false := by simp; omega
              have HP : Hid (inB 32 126 s[k] = true) := by simp [inB, Hid]; omega
              go_wp2
              go_round
              case rel => exact ⟨k + 1, by omega, by go_num, all_take_succ s k hlt HN.out HP.out⟩
              case measure => simp [intOf]; omega
        · go_wp2
          go_ret
          exact ⟨ret_bool (HE.out.trans (all_take_all s k (by omega) HN.out)).symm, rfl⟩
/-- How many letters a text begins with. -/
def letN (l : List UInt8) : Nat := (l.takeWhile isLetB).length
theorem letN_le (l : List UInt8) : letN l ≤ l.length := by unfold letN; exact (List.takeWhile_sublist _).length_le
theorem letN_all (l : List UInt8) : letN l = l.length ↔ letsB l = true := by
  unfold letN letsB
  induction l with
  | nil => simp
  | cons a r ih =>
    by_cases h : isLetB a = true
    · simp only [List.takeWhile_cons, h, if_true, List.length_cons, List.all_cons, Bool.true_and]
      rw [← ih]; omega
    · simp [h]
theorem letN_at (s : ByteArray) (k : Nat) (h : (s.data.toList.take k).all isLetB = true) (hk : k ≤ s.size) (hn : ∀ h : k < s.size, isLetB s[k] = false) : letN s.data.toList = k := by
  unfold letN
  conv => lhs; rw [← List.take_append_drop k s.data.toList]
  rw [List.takeWhile_append_of_pos (fun a ha => List.all_eq_true.1 h a ha)]
  have e : (s.data.toList.drop k).takeWhile isLetB = [] := by
    by_cases hlt : k < s.size
    · rw [drop_cons s k hlt, List.takeWhile_cons, hn hlt]; rfl
    · rw [List.drop_of_length_le (by simp; omega)]; rfl
  rw [e]; simp; omega
theorem letters_calls (s : ByteArray) (w : World) (hs : s.size ≤ maxLen) :
    Calls Tryz.prog 47 #[.string s] w fun e w' => e = .returned (.int .i64 (letN s.data.toList : Int)) ∧ w' = w := by
  unfold maxLen at hs
  go_enter Tryz.func47, Tryz.ntmps47
  go_wp2
  go_loop [3] (fun i => ∃ k : Nat, k ≤ s.size ∧ i = .int .i64 k ∧ (s.data.toList.take k).all isLetB = true) (fun i => s.size - (intOf i).toNat)
  case atStart => exact ⟨0, Nat.zero_le _, rfl, by simp⟩
  case round =>
    obtain ⟨k, hk, rfl, hn⟩ := hrel
    have HN : Hid ((s.data.toList.take k).all isLetB = true) := hn
    clear hn
    by_cases hlt : k < s.size
    · cases hp : isLetB s[k] with
      | false =>
        have HP : Hid (isLetB s[k] = false) := hp
        go_wp2_with (go_at_call 76; refine (letter_calls _ _).mono ?_; rintro e w' ⟨rfl, rfl⟩)
        go_ret
        exact ⟨ret_int (by rw [letN_at s k HN.out (by omega) (fun _ => HP.out)]), rfl⟩
      | true =>
        have HP : Hid (isLetB s[k] = true) := hp
        go_wp2_with (go_at_call 76; refine (letter_calls _ _).mono ?_; rintro e w' ⟨rfl, rfl⟩)
        go_round
        case rel => exact ⟨k + 1, by omega, by go_num, all_take_succ s k hlt HN.out HP.out⟩
        case measure => simp [intOf]; omega
    · go_wp2
      go_ret
      exact ⟨ret_int (by rw [letN_at s k HN.out (by omega) (fun h => absurd h hlt)]), rfl⟩

/-! The document's title -/
theorem areBases_calls (s : ByteArray) (w : World) (hs : s.size ≤ maxLen) :
    Calls Tryz.prog 51 #[.string s] w fun e w' => e = .returned (.bool (basesB s.data.toList)) ∧ w' = w := by
  have HB : Hid (∀ w, Calls Tryz.prog 78 #[.string s] w fun e w' => e = .returned (.bool (letsB s.data.toList)) ∧ w' = w) := fun w => areLetters_calls s w hs
  unfold maxLen at hs
  by_cases h0 : s.toList = []
  · have HE : Hid (basesB s.data.toList = false) := by
      show basesB _ = _
      unfold basesB; rw [toList_nil.1 h0]; rfl
    go_enter Tryz.func51, Tryz.ntmps51
    go_wp2
    go_ret
    exact ⟨ret_bool HE.out.symm, rfl⟩
  · have HN : Hid (basesB s.data.toList = (decide (s.size ≤ 65536) && letsB s.data.toList)) := by
      have h0' : s.data.toList ≠ [] := fun e => h0 (toList_nil.2 e)
      show basesB _ = _
      unfold basesB
      rw [size_toList]
      simp [h0']
    generalize basesB s.data.toList = N at *
    generalize letsB s.data.toList = A at *
    go_enter Tryz.func51, Tryz.ntmps51
    go_wp2_with (go_at_call 78; refine (HB.out _).mono ?_; rintro e w' ⟨rfl, rfl⟩)
    all_goals (go_ret; refine ⟨ret_bool ?_, rfl⟩; rw [HN.out, Bool.eq_iff_iff]; clear HN HB; simp_all <;> (intros; omega))
theorem refSigns_calls (s : ByteArray) (w : World) (hs : s.size ≤ maxLen) :
    Calls Tryz.prog 48 #[.string s] w fun e w' => e = .returned (.bool (signsB s.data.toList)) ∧ w' = w := by
  unfold maxLen at hs
  go_enter Tryz.func48, Tryz.ntmps48
  go_wp2
  go_loop [3] (fun i => ∃ k : Nat, k ≤ s.size ∧ i = .int .i64 k ∧ (s.data.toList.take k).all (inB 33 126) = true) (fun i => s.size - (intOf i).toNat)
  case atStart => exact ⟨0, Nat.zero_le _, rfl, by simp⟩
  case round =>
    obtain ⟨k, hk, rfl, hn⟩ := hrel
    have HN : Hid ((s.data.toList.take k).all (inB 33 126) = true) := hn
    clear hn
    by_cases hlt : k < s.size
    · by_cases ha : (s[k].toNat : Int) < 33
      · have hd : decide ((s[k].toNat : Int) < 33) = true := by simp; omega
        have HP : Hid (inB 33 126 s[k] = false) := by simp [inB, Hid]; omega
        go_wp2
        go_ret
        exact ⟨ret_bool (all_false_at s k hlt HP.out).symm, rfl⟩
      · have hd : decide ((s[k].toNat : Int) < 33) = false := by simp; omega
        by_cases hb : (126 : Int) < s[k].toNat
        · have hd2 : decide ((126 : Int) < s[k].toNat) = true := by simp; omega
          have HP : Hid (inB 33 126 s[k] = false) := by simp [inB, Hid]; omega
          go_wp2
          go_ret
          exact ⟨ret_bool (all_false_at s k hlt HP.out).symm, rfl⟩
        · have hd2 : decide ((126 : Int) < s[k].toNat) = false := by simp; omega
          have HP : Hid (inB 33 126 s[k] = true) := by simp [inB, Hid]; omega
          go_wp2
          go_round
          case rel => exact ⟨k + 1, by omega, by go_num, all_take_succ s k hlt HN.out HP.out⟩
          case measure => simp [intOf]; omega
    · go_wp2
      go_ret
      exact ⟨ret_bool (all_take_all s k (by omega) HN.out).symm, rfl⟩
end Go.Proofs.YtdhphipdpjhhbaaGreatDoor
