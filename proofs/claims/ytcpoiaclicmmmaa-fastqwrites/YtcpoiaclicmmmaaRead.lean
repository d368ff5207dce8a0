/-
  The walks of the program's reader: its lines, its sequences.
-/
import Derived.Test.YtcpoiaclicmmmaaMem
import Derived.BigRegion
import Derived.Deep.RegionLaw
import Derived.Deep.RegionHeld3
namespace Go.Proofs.Ytcpoiaclicmmmaa
open Go.RowKit

theorem below_drewN {B : Nat} {a w : World} (h : Below B a w) (n : Nat) : Below B a (w.drewN n) := h.trans ⟨rfl, rfl, rfl, Nat.le_refl _, fun _ _ => rfl⟩

theorem trim_eq (l : List UInt8) : Lib.trimSuffix l [13] = trimB l := by
  unfold Lib.trimSuffix Lib.hasSuffix trimB
  rcases List.eq_nil_or_concat l with rfl | ⟨r, c, rfl⟩
  · rfl
  · by_cases h : c = 13
    · subst h
      have : List.isSuffixOf [13] (r ++ [13]) = true := by rw [List.isSuffixOf_iff_suffix]; exact ⟨r, rfl⟩
      simp [this]
    · have : List.isSuffixOf [13] (r ++ [c]) = false := by
        rw [Bool.eq_false_iff]; intro e
        obtain ⟨t, ht⟩ := List.isSuffixOf_iff_suffix.1 e
        have := congrArg List.getLast? ht
        simp at this; exact h this.symm
      simp [this, h]

theorem trim_calls (s : ByteArray) (w : World) (hs : s.size ≤ maxLen) :
    Calls Try.prog 30 #[.string s, .string ⟨#[13]⟩] w fun e w' => ∃ t, e = .returned (.string t) ∧ t.data.toList = trimB s.data.toList ∧ w' = w := by
  refine (Try.strings_TrimSuffix s ⟨#[13]⟩ w hs).mono ?_
  rintro e w' ⟨rfl, rfl⟩
  exact ⟨_, rfl, by rw [← trim_eq], rfl⟩

theorem next_none (B b : Nat) (rest line : ByteArray) (num : Nat) (sv : Value) (qs : List Rd) (had : Nat) (q : Rd) (ti : ByteArray) (w : World) (h : RAt B b rest line num sv qs had q ti w) (h0 : rest.data.toList = []) :
    Calls Try.prog 17 #[.pointer (some ⟨b, 0, none⟩)] w fun e w' => e = .returned (.bool false) ∧ w' = w := by
  have e0 : rest.toList = [] := toList_nil.2 h0
  have hc := h.cell0
  clear h h0
  go_enter Try.func17, Try.ntmps17
  go_wp2
  go_ret
  exact ⟨rfl, rfl⟩

theorem next_calls (B b : Nat) (rest line : ByteArray) (num : Nat) (sv : Value) (qs : List Rd) (had : Nat) (q : Rd) (ti : ByteArray) (w : World) (h : RAt B b rest line num sv qs had q ti w) (h0 : rest.data.toList ≠ []) (hs : rest.size ≤ 1048576) (hn : num ≤ 1048576) :
    Calls Try.prog 17 #[.pointer (some ⟨b, 0, none⟩)] w fun e w' => e = .returned (.bool true) ∧ ∃ r l, r.data.toList = tailB 10 rest.data.toList ∧ l.data.toList = trimB (headB 10 rest.data.toList) ∧ RAt B b r l (num + 1) sv qs had q ti w' ∧ Below B w w' := by
  have e1 : rest.toList.isEmpty = false := by cases hr : rest.toList with
    | nil => exact absurd (toList_nil.1 hr) h0
    | cons _ _ => rfl
  have HC : Hid (∀ w, Calls Try.prog 29 #[.string rest, .string ⟨#[10]⟩] w fun e w' => CutPost rest 10 w e w') := fun w => cut_calls rest 10 w (by unfold maxLen; omega)
  have HL : Hid (∀ a : ByteArray, a.data.toList = headB 10 rest.data.toList → a.size ≤ maxLen) := fun a ha => by
    rw [← size_toList, ha]; exact Nat.le_trans (headB_length_le _ _) (by rw [size_toList]; unfold maxLen; omega)
  have hc := h.cell0
  have HR : Hid (RAt B b rest line num sv qs had q ti w) := h
  clear h h0
  go_enter Try.func17, Try.ntmps17
  go_wp2_with fail
  refine (HC.out _).mono ?_
  rintro e w' ⟨a, r, n, rfl, h1, h2, hw⟩
  have HR1 : Hid (RAt B b rest line num sv qs had q ti w' ∧ Below B w w') := by
    rw [hw]
    have hb : Below w.heap.size w (w.drewN n) := below_drewN (Below.refl _ _) n
    exact ⟨HR.out.below hb, hb.mono (Nat.le_trans HR.out.base (Nat.le_of_lt HR.out.lt))⟩
  clear hw
  have HT : Hid (∀ w, Calls Try.prog 30 #[.string a, .string ⟨#[13]⟩] w fun e w' => ∃ t, e = .returned (.string t) ∧ t.data.toList = trimB a.data.toList ∧ w' = w) := fun w => trim_calls a w (HL.out a h1)
  have H12 : Hid (a.data.toList = headB 10 rest.data.toList ∧ r.data.toList = tailB 10 rest.data.toList) := ⟨h1, h2⟩
  have hf0 := HR1.out.1.frozen 0
  have hf1 := HR1.out.1.frozen 1
  have hf2 := HR1.out.1.frozen 2
  have hc1 := HR1.out.1.cell1
  have hc0 := HR1.out.1.cell0
  have hc2 := HR1.out.1.cell2
  clear h1 h2 hc HR HC HL
  go_wp2_with (go_at_call 30; refine (HT.out _).mono ?_; rintro e w'' ⟨t, rfl, h3, rfl⟩)
  go_ret
  have hB := HR1.out.1.base
  refine ⟨rfl, r, t, H12.out.2, by rw [h3, H12.out.1], ((HR1.out.1.put1 t).put0 r).put2 (num + 1) _ (by simp), ?_⟩
  exact ((HR1.out.2.setCell (p := ⟨b, 1, none⟩) hB _).setCell (p := ⟨b, 0, none⟩) hB _).setCell (p := ⟨b, 2, none⟩) hB _

theorem line_calls (B b : Nat) (rest line : ByteArray) (num : Nat) (sv : Value) (qs : List Rd) (had : Nat) (q : Rd) (ti : ByteArray) (w : World) (h : RAt B b rest line num sv qs had q ti w) :
    Calls Try.prog 19 #[.pointer (some ⟨b, 0, none⟩)] w fun e w' => e = .returned (.string line) ∧ w' = w := by
  have hc := h.cell1
  clear h
  go_enter Try.func19, Try.ntmps19
  go_wp2
  go_ret
  exact ⟨rfl, rfl⟩

theorem number_calls (B b : Nat) (rest line : ByteArray) (num : Nat) (sv : Value) (qs : List Rd) (had : Nat) (q : Rd) (ti : ByteArray) (w : World) (h : RAt B b rest line num sv qs had q ti w) :
    Calls Try.prog 20 #[.pointer (some ⟨b, 0, none⟩)] w fun e w' => e = .returned (.int .i64 num) ∧ w' = w := by
  have hc := h.cell2
  clear h
  go_enter Try.func20, Try.ntmps20
  go_wp2
  go_ret
  exact ⟨rfl, rfl⟩

theorem of_calls (s : ByteArray) (w : World) :
    Calls Try.prog 16 #[.string s] w fun e w' => e = .returned (.agg #[.string s, .string ⟨#[]⟩, .int .i64 0]) ∧ Below w.heap.size w w' := by
  go_enter Try.func16, Try.ntmps16
  go_wp2
  refine bodyPost_ret (v := .agg #[.string s, .string ⟨#[]⟩, .int .i64 0]) ?_ rfl ⟨rfl, (Below.refl _ _).alloc (Nat.le_refl _) _⟩
  have hres : Try.f16.results = #[.cell 2 42] := by kernel_rfl
  simp only [results, hres]
  go_simp

/-! A read's first byte, its signs -/
def CutPost1 (s : ByteArray) (w : World) (e : Ending) (w' : World) : Prop :=
  ∃ a, e = .returned (.tuple #[.string a, .bool (decide (s.data.toList.head? = some 64))]) ∧ (s.data.toList.head? = some 64 → a.data.toList = s.data.toList.tail) ∧ a.size ≤ s.size ∧ w' = w
theorem prefix64 (l : List UInt8) : Lib.hasPrefix l [64] = decide (l.head? = some 64) := by
  unfold Lib.hasPrefix
  cases l with
  | nil => rfl
  | cons a r =>
    by_cases h : a = 64
    · subst h; simp [List.isPrefixOf]
    · simp [List.isPrefixOf, h, Ne.symm h]
theorem ret2b {a : Value} {x y : Bool} (h : x = y) : Ending.returned (.tuple #[a, .bool x]) = .returned (.tuple #[a, .bool y]) := by rw [h]

theorem liteCutPrefix_calls (s : ByteArray) (w : World) (hs : s.size ≤ maxLen) :
    Calls Try.prog 58 #[.string s, .string ⟨#[64]⟩] w fun e w' => CutPost1 s w e w' := by
  have HQ : Hid (∀ w, Calls Try.prog 63 #[.string s, .string ⟨#[64]⟩] w fun e w' => e = .returned (.bool (decide (s.data.toList.head? = some 64))) ∧ w' = w) := fun w => by
    rw [← prefix64]; exact Try.stringslite_HasPrefix s ⟨#[64]⟩ w
  unfold maxLen at hs
  by_cases h : s.data.toList.head? = some 64
  · have hp : 0 < s.size := by
      rcases Nat.eq_zero_or_pos s.size with h0 | h0
      · rw [size_zero.2 h0] at h; cases h
      · exact h0
    have HX : Hid (CutPost1 s w (.returned (.tuple #[.string (s.extract 1 s.size), .bool true])) w) := by
      refine ⟨s.extract 1 s.size, ret2b (by simp [h]), fun _ => ?_, ?_, rfl⟩
      · rw [extract_list, List.take_of_length_le (by simp)]; simp
      · simp
    have hd : (decide (s.data.toList.head? = some 64)) = true := by simp [h]
    rw [hd] at HQ
    clear h hd
    go_enter Try.func58, Try.ntmps58
    go_wp2_with (go_at_call 63; refine (HQ.out _).mono ?_; rintro e w' ⟨rfl, rfl⟩)
    go_ret2
    exact HX.out
  · have HX : Hid (CutPost1 s w (.returned (.tuple #[.string s, .bool false])) w) := ⟨s, ret2b (by simp [h]), fun h' => absurd h' h, Nat.le_refl _, rfl⟩
    have hd : (decide (s.data.toList.head? = some 64)) = false := by simp [h]
    rw [hd] at HQ
    clear h hd
    go_enter Try.func58, Try.ntmps58
    go_wp2_with (go_at_call 63; refine (HQ.out _).mono ?_; rintro e w' ⟨rfl, rfl⟩)
    go_ret2
    exact HX.out

theorem cutPrefix_calls (s : ByteArray) (w : World) (hs : s.size ≤ maxLen) :
    Calls Try.prog 46 #[.string s, .string ⟨#[64]⟩] w fun e w' => CutPost1 s w e w' := by
  have HC : Hid (∀ w, Calls Try.prog 58 #[.string s, .string ⟨#[64]⟩] w fun e w' => CutPost1 s w e w') := fun w => liteCutPrefix_calls s w hs
  clear hs
  go_enter Try.func46, Try.ntmps46
  go_wp2_with (go_at_call 58; refine (HC.out _).mono ?_; rintro e w' ⟨a, rfl, h1, h2, rfl⟩)
  go_ret2
  exact ⟨a, rfl, h1, h2, rfl⟩

theorem hasSigns_calls (q : Rd) (w : World) (hs : q.2.2.2.size ≤ maxLen) :
    Calls Try.prog 39 #[.agg #[.string q.1, .string q.2.1, .string q.2.2.1, .string q.2.2.2]] w fun e w' => e = .returned (.bool (lastB q.2.2.1.data.toList q.2.2.2.data.toList)) ∧ Below w.heap.size w w' := by
  have HS : Hid (∀ w, Calls Try.prog 51 #[.string q.2.2.2] w fun e w' => e = .returned (.bool (signsB q.2.2.2.data.toList)) ∧ w' = w) := fun w => areSigns_calls q.2.2.2 w hs
  unfold maxLen at hs
  have HL : Hid (lastB q.2.2.1.data.toList q.2.2.2.data.toList = (decide (q.2.2.2.size = q.2.2.1.size) && signsB q.2.2.2.data.toList)) := by
    show lastB _ _ = _
    unfold lastB; rw [size_toList, size_toList]
  have HB : Hid (∀ o, Below w.heap.size w (w.alloc o)) := fun o => (Below.refl _ _).alloc (Nat.le_refl _) o
  generalize lastB q.2.2.1.data.toList q.2.2.2.data.toList = L at *
  generalize signsB q.2.2.2.data.toList = G at *
  by_cases h : q.2.2.2.size = q.2.2.1.size
  · have hd : ((q.2.2.2.size : Int) == (q.2.2.1.size : Int)) = true := by simp [h]
    have HE : Hid (L = G) := by show L = G; rw [HL.out]; simp [h]
    clear h HL
    go_enter Try.func39, Try.ntmps39
    go_wp2_with (go_at_call 51; refine (HS.out _).mono ?_; rintro e w' ⟨rfl, rfl⟩)
    go_ret
    exact ⟨ret_bool HE.out.symm, HB.out _⟩
  · have hd : ((q.2.2.2.size : Int) == (q.2.2.1.size : Int)) = false := by simp; omega
    have HE : Hid (L = false) := by show L = false; rw [HL.out]; simp [h]
    clear h HL
    go_enter Try.func39, Try.ntmps39
    go_wp2_with (go_at_call 51; refine (HS.out _).mono ?_; rintro e w' ⟨rfl, rfl⟩)
    go_ret
    exact ⟨ret_bool HE.out.symm, HB.out _⟩
end Go.Proofs.Ytcpoiaclicmmmaa
