/-
  The walk of strings.Cut at one byte.
-/
import Derived.Test.YtnnmhmlebffacaaMem
import Derived.Test.YtnnmhmlebffacaaShelf
import Derived.BigQuiet
import Derived.Deep.QuietTactic
namespace Go.Proofs.Ytnnmhmlebffacaa
open Go.RowKit

def hasB (c : UInt8) (l : List UInt8) : Bool := decide (c ∈ l)
def headB (c : UInt8) (l : List UInt8) : List UInt8 := l.takeWhile (· != c)
def tailB (c : UInt8) (l : List UInt8) : List UInt8 := (l.dropWhile (· != c)).tail
theorem headB_nil (c : UInt8) : headB c [] = [] := rfl
theorem tailB_nil (c : UInt8) : tailB c [] = [] := rfl
theorem headB_cons_eq (c : UInt8) (r : List UInt8) : headB c (c :: r) = [] := by simp [headB]
theorem tailB_cons_eq (c : UInt8) (r : List UInt8) : tailB c (c :: r) = r := by simp [tailB]
theorem headB_cons_ne {c d : UInt8} (h : d ≠ c) (r : List UInt8) : headB c (d :: r) = d :: headB c r := by simp [headB, h]
theorem tailB_cons_ne {c d : UInt8} (h : d ≠ c) (r : List UInt8) : tailB c (d :: r) = tailB c r := by simp [tailB, h]
theorem headB_not_mem {c : UInt8} : ∀ {l : List UInt8}, c ∉ l → headB c l = l
  | [], _ => rfl
  | d :: r, h => by
    have h1 : d ≠ c := fun e => h (by simp [e])
    rw [headB_cons_ne h1, headB_not_mem (fun hm => h (List.mem_cons_of_mem _ hm))]
theorem tailB_not_mem {c : UInt8} : ∀ {l : List UInt8}, c ∉ l → tailB c l = []
  | [], _ => rfl
  | d :: r, h => by
    have h1 : d ≠ c := fun e => h (by simp [e])
    rw [tailB_cons_ne h1, tailB_not_mem (fun hm => h (List.mem_cons_of_mem _ hm))]
theorem head_tail_mem {c : UInt8} : ∀ {l : List UInt8}, c ∈ l → l = headB c l ++ c :: tailB c l
  | d :: r, h => by
    by_cases h1 : d = c
    · subst h1; rw [headB_cons_eq, tailB_cons_eq]; rfl
    · rw [headB_cons_ne h1, tailB_cons_ne h1, List.cons_append, ← head_tail_mem ((List.mem_cons.1 h).resolve_left fun e => h1 e.symm)]
theorem headB_free (c : UInt8) : ∀ (l : List UInt8), c ∉ headB c l
  | [] => by simp [headB]
  | d :: r => by
    by_cases h1 : d = c
    · subst h1; simp [headB_cons_eq]
    · rw [headB_cons_ne h1]
      intro hm
      rcases List.mem_cons.1 hm with e | e
      · exact h1 e.symm
      · exact headB_free c r e
theorem indexByte_none (c : UInt8) : ∀ (l : List UInt8), c ∉ l → Lib.indexByte l c = -1
  | [], _ => rfl
  | b :: l, h => by
    have h1 : b ≠ c := fun e => h (by simp [e])
    simp [Lib.indexByte, h1, indexByte_none c l (fun hm => h (List.mem_cons_of_mem _ hm))]
theorem indexByte_head (c : UInt8) : ∀ (l : List UInt8), c ∈ l → Lib.indexByte l c = ((headB c l).length : Int)
  | b :: l, h => by
    by_cases h1 : b = c
    · subst h1; rw [headB_cons_eq]; simp [Lib.indexByte]
    · have ih := indexByte_head c l ((List.mem_cons.1 h).resolve_left fun e => h1 e.symm)
      rw [headB_cons_ne h1]
      unfold Lib.indexByte
      rw [ih]
      have h2 : ¬ ((headB c l).length : Int) = -1 := by omega
      simp [h1, h2]
theorem take_headB {c : UInt8} {l : List UInt8} (h : c ∈ l) : l.take (headB c l).length = headB c l := by
  conv => lhs; arg 2; rw [head_tail_mem h]
  simp
theorem drop_headB {c : UInt8} {l : List UInt8} (h : c ∈ l) : l.drop ((headB c l).length + 1) = tailB c l := by
  conv => lhs; arg 2; rw [head_tail_mem h]
  rw [show headB c l ++ c :: tailB c l = (headB c l ++ [c]) ++ tailB c l by simp, show (headB c l).length + 1 = (headB c l ++ [c]).length by simp, List.drop_left]
theorem headB_length_lt {c : UInt8} {l : List UInt8} (h : c ∈ l) : (headB c l).length < l.length := by
  conv => rhs; rw [head_tail_mem h]
  simp
theorem index1_calls (s : ByteArray) (c : UInt8) (w : World) :
    Calls Try.prog 97 #[.string s, .string ⟨#[c]⟩] w fun e w' => e = .returned (.int .i64 (Lib.indexByte s.data.toList c)) ∧ w' = w := by
  have HI : Hid (∀ w, Calls Try.prog 99 #[.string s, .int .u8 (c.toNat : Int)] w fun e w' => e = .returned (.int .i64 (Lib.indexByte s.data.toList c)) ∧ w' = w) := fun w => by
    refine (Try.stringslite_IndexByte _ _ _).mono ?_
    rintro e w' ⟨rfl, rfl⟩
    exact ⟨by simp, rfl⟩
  by_cases he : ([c] == s.toList) = true
  · have HX : Hid (Lib.indexByte s.data.toList c = 0) := by
      have e : [c] = s.toList := by simpa using he
      rw [ByteArray.toList_eq] at e
      show Lib.indexByte _ _ = _
      rw [← e]; simp [Lib.indexByte]
    clear HI
    go_enter Try.func97, Try.ntmps97
    go_wp2
    go_ret
    exact ⟨ret_int HX.out.symm, rfl⟩
  · have he2 : ([c] == s.toList) = false := by simpa using he
    clear he
    go_enter Try.func97, Try.ntmps97
    go_wp2_with (go_at_call 99; refine (HI.out _).mono ?_; rintro e w' ⟨rfl, rfl⟩)
    go_ret
    exact ⟨rfl, rfl⟩

theorem ret3 {a b : Value} {x y : Bool} (h : x = y) : Ending.returned (.tuple #[a, b, .bool x]) = .returned (.tuple #[a, b, .bool y]) := by rw [h]
theorem extract_list (s : ByteArray) (i j : Nat) : (s.extract i j).data.toList = (s.data.toList.take j).drop i := by
  simp [List.drop_take]

def CutPost (s : ByteArray) (c : UInt8) (w : World) (e : Ending) (w' : World) : Prop :=
  ∃ a b n, e = .returned (.tuple #[.string a, .string b, .bool (hasB c s.data.toList)]) ∧ a.data.toList = headB c s.data.toList ∧ b.data.toList = tailB c s.data.toList ∧ w' = w.drewN n

theorem liteCut_calls (s : ByteArray) (c : UInt8) (w : World) (hs : s.size ≤ maxLen) :
    Calls Try.prog 93 #[.string s, .string ⟨#[c]⟩] w fun e w' => CutPost s c w e w' := by
  unfold maxLen at hs
  by_cases hm : c ∈ s.data.toList
  · have hl := headB_length_lt hm
    have HI : Hid (∀ w, Calls Try.prog 97 #[.string s, .string ⟨#[c]⟩] w fun e w' => e = .returned (.int .i64 ((headB c s.data.toList).length : Int)) ∧ w' = w) := fun w => by
      rw [← indexByte_head c _ hm]; exact index1_calls s c w
    rw [size_toList] at hl
    have HT : Hid (s.data.toList.take (headB c s.data.toList).length = headB c s.data.toList ∧ s.data.toList.drop ((headB c s.data.toList).length + 1) = tailB c s.data.toList) := ⟨take_headB hm, drop_headB hm⟩
    generalize (headB c s.data.toList).length = n at *
    have HM : Hid (c ∈ s.data.toList) := hm
    clear hm
    go_enter Try.func93, Try.ntmps93
    go_wp2_with (go_at_call 97; refine (HI.out _).mono ?_; rintro e w' ⟨rfl, rfl⟩)
    go_quiet (fail)
    go_wp2
    go_ret3
    refine ⟨s.extract 0 n, s.extract (n + 1) s.size, _, ret3 (by simpa [hasB] using HM.out), ?_, ?_, rfl⟩
    · rw [extract_list, ← HT.out.1]; simp
    · rw [extract_list, ← HT.out.2, List.take_of_length_le (by simp)]
  · have HI : Hid (∀ w, Calls Try.prog 97 #[.string s, .string ⟨#[c]⟩] w fun e w' => e = .returned (.int .i64 (-1)) ∧ w' = w) := fun w => by
      rw [← indexByte_none c _ hm]; exact index1_calls s c w
    have HM : Hid (c ∉ s.data.toList) := hm
    clear hm
    go_enter Try.func93, Try.ntmps93
    go_wp2_with (go_at_call 97; refine (HI.out _).mono ?_; rintro e w' ⟨rfl, rfl⟩)
    go_ret3
    exact ⟨s, ByteArray.empty, 0, ret3 (by simpa [hasB] using HM.out), (headB_not_mem HM.out).symm, (tailB_not_mem HM.out).symm, rfl⟩

theorem cut_calls (s : ByteArray) (c : UInt8) (w : World) (hs : s.size ≤ maxLen) :
    Calls Try.prog 81 #[.string s, .string ⟨#[c]⟩] w fun e w' => CutPost s c w e w' := by
  have HC : Hid (∀ w, Calls Try.prog 93 #[.string s, .string ⟨#[c]⟩] w fun e w' => CutPost s c w e w') := fun w => liteCut_calls s c w hs
  clear hs
  go_enter Try.func81, Try.ntmps81
  go_wp2_with (go_at_call 93; refine (HC.out _).mono ?_; rintro e w' ⟨a, b, n, rfl, h1, h2, rfl⟩)
  go_ret3
  exact ⟨a, b, n, rfl, h1, h2, rfl⟩

end Go.Proofs.Ytnnmhmlebffacaa
