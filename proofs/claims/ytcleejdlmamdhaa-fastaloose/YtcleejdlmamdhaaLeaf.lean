/-
  The walks of the small functions: letters, bytes between two bounds, names, notes, cutting a text at a byte.
-/
import Derived.Test.YtcleejdlmamdhaaShelf
import Derived.Test.YtcleejdlmamdhaaPlain
import Derived.WalkKit
import Derived.BigQuiet
import Derived.Deep.QuietTactic
namespace Go.Proofs.Ytcleejdlmamdhaa
open Go.RowKit

theorem ret_int {k : IntKind} {a b : Int} (h : a = b) : Ending.returned (.int k a) = .returned (.int k b) := by rw [h]
theorem ret_bool {a b : Bool} (h : a = b) : Ending.returned (.bool a) = .returned (.bool b) := by rw [h]

theorem isLetter_calls (c : UInt8) (w : World) :
    Calls Try.prog 61 #[.int .u8 (c.toNat : Int)] w fun e w' => e = .returned (.bool (isLetB c)) ∧ w' = w := by
  have hb := UInt8.toNat_lt c
  go_enter Try.func61, Try.ntmps61
  go_wp2
  all_goals (go_ret; exact ⟨ret_bool (by rw [Bool.eq_iff_iff]; simp [isLetB]; omega), rfl⟩)

theorem letter_calls (c : UInt8) (w : World) :
    Calls Try.prog 38 #[.int .u8 (c.toNat : Int)] w fun e w' => e = .returned (.bool (isLetB c)) ∧ w' = w := by
  have hb := UInt8.toNat_lt c
  go_enter Try.func38, Try.ntmps38
  go_wp2
  all_goals (go_ret; exact ⟨ret_bool (by rw [Bool.eq_iff_iff]; simp [isLetB]; omega), rfl⟩)

theorem areLetters_calls (s : ByteArray) (w : World) (hs : s.size ≤ maxLen) :
    Calls Try.prog 52 #[.string s] w fun e w' => e = .returned (.bool (letsB s.data.toList)) ∧ w' = w := by
  unfold maxLen at hs
  go_enter Try.func52, Try.ntmps52
  go_wp2
  go_loop [6] (fun i => ∃ k : Nat, k ≤ s.size ∧ i = .int .i64 k ∧ (s.data.toList.take k).all isLetB = true) (fun i => s.size - (intOf i).toNat)
  case atStart => exact ⟨0, Nat.zero_le _, rfl, by simp⟩
  case round =>
    obtain ⟨k, hk, rfl, hn⟩ := hrel
    have HN : Hid ((s.data.toList.take k).all isLetB = true) := hn
    clear hn
    by_cases hlt : k < s.size
    · cases hp : isLetB s[k] with
      | false =>
        have HP : Hid (isLetB s[k] = false) := hp
        go_wp2_with (go_at_call 61; refine (isLetter_calls _ _).mono ?_; rintro e w' ⟨rfl, rfl⟩)
        go_ret
        exact ⟨ret_bool (all_false_at s k hlt HP.out).symm, rfl⟩
      | true =>
        have HP : Hid (isLetB s[k] = true) := hp
        go_wp2_with (go_at_call 61; refine (isLetter_calls _ _).mono ?_; rintro e w' ⟨rfl, rfl⟩)
        go_round
        case rel => exact ⟨k + 1, by omega, by go_num, all_take_succ s k hlt HN.out HP.out⟩
        case measure => simp [intOf]; omega
    · go_wp2
      go_ret
      exact ⟨ret_bool (all_take_all s k (by omega) HN.out).symm, rfl⟩

theorem between_calls (s : ByteArray) (lo hi : Nat) (w : World) (hs : s.size ≤ maxLen) :
    Calls Try.prog 55 #[.string s, .int .u8 (lo : Int), .int .u8 (hi : Int)] w fun e w' => e = .returned (.bool (allIn lo hi s.data.toList)) ∧ w' = w := by
  unfold maxLen at hs
  go_enter Try.func55, Try.ntmps55
  go_wp2
  go_loop [10] (fun i => ∃ k : Nat, k ≤ s.size ∧ i = .int .i64 k ∧ (s.data.toList.take k).all (inB lo hi) = true) (fun i => s.size - (intOf i).toNat)
  case atStart => exact ⟨0, Nat.zero_le _, rfl, by simp⟩
  case round =>
    obtain ⟨k, hk, rfl, hn⟩ := hrel
    have HN : Hid ((s.data.toList.take k).all (inB lo hi) = true) := hn
    clear hn
    by_cases hlt : k < s.size
    · by_cases ha : (s[k].toNat : Int) < lo
      · have hd : decide ((s[k].toNat : Int) < lo) = true := by simp; omega
        have HP : Hid (inB lo hi s[k] = false) := by simp [inB, Hid]; omega
        go_wp2
        go_ret
        exact ⟨ret_bool (all_false_at s k hlt HP.out).symm, rfl⟩
      · have hd : decide ((s[k].toNat : Int) < lo) = false := by simp; omega
        by_cases hb : (hi : Int) < s[k].toNat
        · have hd2 : decide ((hi : Int) < s[k].toNat) = true := by simp; omega
          have HP : Hid (inB lo hi s[k] = false) := by simp [inB, Hid]; omega
          go_wp2
          go_ret
          exact ⟨ret_bool (all_false_at s k hlt HP.out).symm, rfl⟩
        · have hd2 : decide ((hi : Int) < s[k].toNat) = false := by simp; omega
          have HP : Hid (inB lo hi s[k] = true) := by simp [inB, Hid]; omega
          go_wp2
          go_round
          case rel => exact ⟨k + 1, by omega, by go_num, all_take_succ s k hlt HN.out HP.out⟩
          case measure => simp [intOf]; omega
    · go_wp2
      go_ret
      exact ⟨ret_bool (all_take_all s k (by omega) HN.out).symm, rfl⟩

theorem toList_nil {s : ByteArray} : s.toList = [] ↔ s.data.toList = [] := by rw [ByteArray.toList_eq]
theorem toList_size {s : ByteArray} (h : ¬ s.toList = []) : 0 < s.size := by
  rcases Nat.eq_zero_or_pos s.size with h0 | h0
  · exact absurd (toList_nil.2 (size_zero.2 h0)) h
  · exact h0

def idx3 (c : UInt8) : Int := Lib.indexByte [64, 42, 61] c
theorem idx3_calls (c : UInt8) (w : World) :
    Calls Try.prog 54 #[.string ⟨#[64, 42, 61]⟩, .int .u8 (c.toNat : Int)] w fun e w' => e = .returned (.int .i64 (idx3 c)) ∧ w' = w := by
  refine (Try.strings_IndexByte _ _ _).mono ?_
  rintro e w' ⟨rfl, rfl⟩
  refine ⟨ret_int ?_, rfl⟩
  simp [idx3]
theorem idx3_head (s : ByteArray) (h : 0 < s.size) : headOkB s.data.toList = decide (idx3 s[0] < 0) := by
  unfold headOkB idx3
  rw [head?_at s h]
  generalize s[0] = c
  by_cases h1 : (64 : UInt8) = c
  · subst h1; decide
  by_cases h2 : (42 : UInt8) = c
  · subst h2; decide
  by_cases h3 : (61 : UInt8) = c
  · subst h3; decide
  have e : Lib.indexByte [64, 42, 61] c = -1 := indexByte_none _ _ (by simp [Ne.symm h1, Ne.symm h2, Ne.symm h3])
  rw [e]
  simp [Ne.symm h1, Ne.symm h2, Ne.symm h3]

theorem areSigns_calls (s : ByteArray) (w : World) (hs : s.size ≤ maxLen) :
    Calls Try.prog 53 #[.string s] w fun e w' => e = .returned (.bool (allIn 33 126 s.data.toList)) ∧ w' = w := by
  have HB : Hid (∀ w, Calls Try.prog 55 #[.string s, .int .u8 33, .int .u8 126] w fun e w' => e = .returned (.bool (allIn 33 126 s.data.toList)) ∧ w' = w) := fun w => between_calls s 33 126 w hs
  clear hs
  go_enter Try.func53, Try.ntmps53
  go_wp2_with (go_at_call 55; refine (HB.out _).mono ?_; rintro e w' ⟨rfl, rfl⟩)
  go_ret
  exact ⟨rfl, rfl⟩

theorem isName_calls (s : ByteArray) (w : World) (hs : s.size ≤ maxLen) :
    Calls Try.prog 39 #[.string s] w fun e w' => e = .returned (.bool (nameB s.data.toList)) ∧ w' = w := by
  have HB : Hid (∀ w, Calls Try.prog 53 #[.string s] w fun e w' => e = .returned (.bool (allIn 33 126 s.data.toList)) ∧ w' = w) := fun w => areSigns_calls s w hs
  unfold maxLen at hs
  by_cases h0 : s.toList = []
  · have HE : Hid (nameB s.data.toList = false) := by
      unfold nameB; rw [toList_nil.1 h0]; rfl
    go_enter Try.func39, Try.ntmps39
    go_wp2
    go_ret
    exact ⟨ret_bool HE.out.symm, rfl⟩
  · have hp := toList_size h0
    have HN : Hid (nameB s.data.toList = (decide (s.size ≤ 64) && (allIn 33 126 s.data.toList && decide (idx3 s[0] < 0)))) := by
      have h0' : s.data.toList ≠ [] := fun e => h0 (toList_nil.2 e)
      show nameB _ = _
      unfold nameB
      rw [idx3_head s hp, size_toList]
      simp [h0']
    generalize nameB s.data.toList = N at *
    generalize allIn 33 126 s.data.toList = A at *
    generalize hix : idx3 s[0] = ix at *
    have HX : Hid (idx3 s[0] = ix) := hix
    clear hix
    go_enter Try.func39, Try.ntmps39
    go_wp2_with (first
      | (go_at_call 53; refine (HB.out _).mono ?_; rintro e w' ⟨rfl, rfl⟩)
      | (go_at_call 54; refine (idx3_calls _ _).mono ?_; rw [HX.out]; rintro e w' ⟨rfl, rfl⟩))
    all_goals (go_ret; refine ⟨ret_bool ?_, rfl⟩; rw [HN.out, Bool.eq_iff_iff]; clear HN; simp_all <;> (intros; omega))

theorem isNote_calls (s : ByteArray) (w : World) (hs : s.size ≤ maxLen) :
    Calls Try.prog 40 #[.string s] w fun e w' => e = .returned (.bool (noteB s.data.toList)) ∧ w' = w := by
  have HB : Hid (∀ w, Calls Try.prog 55 #[.string s, .int .u8 32, .int .u8 126] w fun e w' => e = .returned (.bool (allIn 32 126 s.data.toList)) ∧ w' = w) := fun w => between_calls s 32 126 w hs
  unfold maxLen at hs
  have HP : Hid (Lib.hasPrefix s.data.toList [32] = decide (s.data.toList.head? = some 32)) := by
    show Lib.hasPrefix _ _ = _
    unfold Lib.hasPrefix
    cases s.data.toList with
    | nil => rfl
    | cons a r =>
      by_cases h : a = 32
      · subst h; simp [List.isPrefixOf]
      · simp [List.isPrefixOf, h, Ne.symm h]
  have HN : Hid (noteB s.data.toList = (decide (s.size ≤ 64) && (allIn 32 126 s.data.toList && !Lib.hasPrefix s.data.toList [32]))) := by
    show noteB _ = _
    rw [HP.out]
    unfold noteB
    rw [size_toList]
    simp
  have HQ : Hid (∀ w, Calls Try.prog 56 #[.string s, .string ⟨#[32]⟩] w fun e w' => e = .returned (.bool (Lib.hasPrefix s.data.toList [32])) ∧ w' = w) := fun w => Try.strings_HasPrefix s ⟨#[32]⟩ w
  generalize noteB s.data.toList = N at *
  generalize allIn 32 126 s.data.toList = A at *
  generalize Lib.hasPrefix s.data.toList [32] = Hp at *
  clear HP
  go_enter Try.func40, Try.ntmps40
  go_wp2_with (first
    | (go_at_call 55; refine (HB.out _).mono ?_; rintro e w' ⟨rfl, rfl⟩)
    | (go_at_call 56; refine (HQ.out _).mono ?_; rintro e w' ⟨rfl, rfl⟩))
  all_goals (go_ret; refine ⟨ret_bool ?_, rfl⟩; rw [HN.out, Bool.eq_iff_iff]; clear HN; simp_all <;> (intros; omega))

/-! Cutting a text at a byte -/
theorem index1_calls (s : ByteArray) (c : UInt8) (w : World) :
    Calls Try.prog 58 #[.string s, .string ⟨#[c]⟩] w fun e w' => e = .returned (.int .i64 (Lib.indexByte s.data.toList c)) ∧ w' = w := by
  have HI : Hid (∀ w, Calls Try.prog 62 #[.string s, .int .u8 (c.toNat : Int)] w fun e w' => e = .returned (.int .i64 (Lib.indexByte s.data.toList c)) ∧ w' = w) := fun w => by
    refine (Try.stringslite_IndexByte _ _ _).mono ?_
    rintro e w' ⟨rfl, rfl⟩
    exact ⟨by simp, rfl⟩
  by_cases he : ([c] == s.toList) = true
  · have HX : Hid (Lib.indexByte s.data.toList c = 0) := by
      have e : [c] = s.toList := by simpa using he
      rw [ByteArray.toList_eq] at e
      show Lib.indexByte _ _ = _
      rw [← e]; simp [Lib.indexByte]
    clear HI
    go_enter Try.func58, Try.ntmps58
    go_wp2
    go_ret
    exact ⟨ret_int HX.out.symm, rfl⟩
  · have he2 : ([c] == s.toList) = false := by simpa using he
    clear he
    go_enter Try.func58, Try.ntmps58
    go_wp2_with (go_at_call 62; refine (HI.out _).mono ?_; rintro e w' ⟨rfl, rfl⟩)
    go_ret
    exact ⟨rfl, rfl⟩

theorem ret3 {a b : Value} {x y : Bool} (h : x = y) : Ending.returned (.tuple #[a, b, .bool x]) = .returned (.tuple #[a, b, .bool y]) := by rw [h]
theorem extract_list (s : ByteArray) (i j : Nat) : (s.extract i j).data.toList = (s.data.toList.take j).drop i := by
  simp [List.drop_take]

def CutPost (s : ByteArray) (c : UInt8) (w : World) (e : Ending) (w' : World) : Prop :=
  ∃ a b n, e = .returned (.tuple #[.string a, .string b, .bool (hasB c s.data.toList)]) ∧ a.data.toList = headB c s.data.toList ∧ b.data.toList = tailB c s.data.toList ∧ w' = w.drewN n

theorem liteCut_calls (s : ByteArray) (c : UInt8) (w : World) (hs : s.size ≤ maxLen) :
    Calls Try.prog 48 #[.string s, .string ⟨#[c]⟩] w fun e w' => CutPost s c w e w' := by
  unfold maxLen at hs
  by_cases hm : c ∈ s.data.toList
  · have hl := headB_length_lt hm
    have HI : Hid (∀ w, Calls Try.prog 58 #[.string s, .string ⟨#[c]⟩] w fun e w' => e = .returned (.int .i64 ((headB c s.data.toList).length : Int)) ∧ w' = w) := fun w => by
      rw [← indexByte_head c _ hm]; exact index1_calls s c w
    rw [size_toList] at hl
    have HT : Hid (s.data.toList.take (headB c s.data.toList).length = headB c s.data.toList ∧ s.data.toList.drop ((headB c s.data.toList).length + 1) = tailB c s.data.toList) := ⟨take_headB hm, drop_headB hm⟩
    generalize (headB c s.data.toList).length = n at *
    have HM : Hid (c ∈ s.data.toList) := hm
    clear hm
    go_enter Try.func48, Try.ntmps48
    go_wp2_with (go_at_call 58; refine (HI.out _).mono ?_; rintro e w' ⟨rfl, rfl⟩)
    go_quiet (fail)
    go_wp2
    go_ret3
    refine ⟨s.extract 0 n, s.extract (n + 1) s.size, _, ret3 (by simpa [hasB] using HM.out), ?_, ?_, rfl⟩
    · rw [extract_list, ← HT.out.1]; simp
    · rw [extract_list, ← HT.out.2, List.take_of_length_le (by simp)]
  · have HI : Hid (∀ w, Calls Try.prog 58 #[.string s, .string ⟨#[c]⟩] w fun e w' => e = .returned (.int .i64 (-1)) ∧ w' = w) := fun w => by
      rw [← indexByte_none c _ hm]; exact index1_calls s c w
    have HM : Hid (c ∉ s.data.toList) := hm
    clear hm
    go_enter Try.func48, Try.ntmps48
    go_wp2_with (go_at_call 58; refine (HI.out _).mono ?_; rintro e w' ⟨rfl, rfl⟩)
    go_ret3
    exact ⟨s, ByteArray.empty, 0, ret3 (by simpa [hasB] using HM.out), (headB_not_mem HM.out).symm, (tailB_not_mem HM.out).symm, rfl⟩

theorem cut_calls (s : ByteArray) (c : UInt8) (w : World) (hs : s.size ≤ maxLen) :
    Calls Try.prog 33 #[.string s, .string ⟨#[c]⟩] w fun e w' => CutPost s c w e w' := by
  have HC : Hid (∀ w, Calls Try.prog 48 #[.string s, .string ⟨#[c]⟩] w fun e w' => CutPost s c w e w') := fun w => liteCut_calls s c w hs
  clear hs
  go_enter Try.func33, Try.ntmps33
  go_wp2_with (go_at_call 48; refine (HC.out _).mono ?_; rintro e w' ⟨a, b, n, rfl, h1, h2, rfl⟩)
  go_ret3
  exact ⟨a, b, n, rfl, h1, h2, rfl⟩

def TitlePost (s : ByteArray) (w : World) (e : Ending) (w' : World) : Prop :=
  ∃ a b n, e = .returned (.tuple #[.string a, .string b, .bool (titleOkB s.data.toList)]) ∧ (titleOkB s.data.toList = true → a.data.toList = headB 32 s.data.toList ∧ b.data.toList = tailB 32 s.data.toList) ∧ w' = w.drewN n

theorem title_calls (s : ByteArray) (w : World) (hs : s.size ≤ maxLen) :
    Calls Try.prog 50 #[.string s] w fun e w' => TitlePost s w e w' := by
  have HC : Hid (∀ w, Calls Try.prog 33 #[.string s, .string ⟨#[32]⟩] w fun e w' => CutPost s 32 w e w') := fun w => cut_calls s 32 w hs
  have HS : Hid (s.size ≤ maxLen) := hs
  clear hs
  go_enter Try.func50, Try.ntmps50
  go_wp2_with fail
  refine (HC.out _).mono ?_
  rintro e w' ⟨a, b, n, rfl, h1, h2, rfl⟩
  have ha : a.size ≤ maxLen := by
    rw [← size_toList, h1]; exact Nat.le_trans (headB_length_le _ _) (by rw [size_toList]; exact HS.out)
  have hb : b.size ≤ maxLen := by
    rw [← size_toList, h2]; exact Nat.le_trans (tailB_length_le _ _) (by rw [size_toList]; exact Nat.le_trans (Nat.sub_le _ _) HS.out)
  have HA : Hid (∀ w, Calls Try.prog 39 #[.string a] w fun e w' => e = .returned (.bool (nameB a.data.toList)) ∧ w' = w) := fun w => isName_calls a w ha
  have HB : Hid (∀ w, Calls Try.prog 40 #[.string b] w fun e w' => e = .returned (.bool (noteB b.data.toList)) ∧ w' = w) := fun w => isNote_calls b w hb
  have HV : Hid (titleOkB s.data.toList = (nameB a.data.toList && (noteB b.data.toList && !(hasB 32 s.data.toList && decide (b.toList = []))))) := by
    show titleOkB _ = _
    rw [ByteArray.toList_eq, h1, h2]; rfl
  have H12 : Hid (a.data.toList = headB 32 s.data.toList ∧ b.data.toList = tailB 32 s.data.toList) := ⟨h1, h2⟩
  clear h1 h2 ha hb HC HS
  generalize nameB a.data.toList = N at *
  generalize noteB b.data.toList = T at *
  generalize hasB 32 s.data.toList = f at *
  generalize hwd : w.drewN n = wd at *
  have HW : Hid (w.drewN n = wd) := hwd
  clear hwd
  generalize hok : titleOkB s.data.toList = ok at *
  have HO : Hid (titleOkB s.data.toList = ok) := hok
  clear hok
  go_wp2_with (first
    | (go_at_call 39; refine (HA.out _).mono ?_; rintro e w' ⟨rfl, rfl⟩)
    | (go_at_call 40; refine (HB.out _).mono ?_; rintro e w' ⟨rfl, rfl⟩))
  all_goals go_ret3
  all_goals first
    | (refine ⟨a, b, n, ret3 ?_, fun _ => H12.out, HW.out.symm⟩; rw [HO.out, HV.out]; simp_all; done)
    | (refine ⟨ByteArray.empty, ByteArray.empty, n, ret3 ?_, ?_, HW.out.symm⟩ <;> (rw [HO.out, HV.out]; simp_all); done)
end Go.Proofs.Ytcleejdlmamdhaa
