/-
  The walks of the program's reader: its lines, its sequences.
-/
import Derived.Test.YtcleejdlmamdhaaRows2
import Derived.BigRegion
import Derived.Deep.RegionLaw
namespace Go.Proofs.Ytcleejdlmamdhaa
open Go.RowKit

theorem below_drewN {B : Nat} {a w : World} (h : Below B a w) (n : Nat) : Below B a (w.drewN n) := h.trans ⟨rfl, rfl, rfl, Nat.le_refl _, fun _ _ => rfl⟩

theorem trim_eq (l : List UInt8) : Lib.trimSuffix l [13] = trimB l := by
  unfold Lib.trimSuffix Lib.hasSuffix trimB
  rcases List.eq_nil_or_concat l with rfl | ⟨r, c, rfl⟩
  · rfl
  · by_cases h : c = 13
    · subst h
      have : List.isSuffixOf [13] (r ++ [13]) = true := by rw [List.isSuffixOf_iff_suffix]; exact ⟨r, rfl⟩
      simp [this]
    · have : List.isSuffixOf [13] (r ++ [c]) = false := by
        rw [Bool.eq_false_iff]; intro e
        obtain ⟨t, ht⟩ := List.isSuffixOf_iff_suffix.1 e
        have := congrArg List.getLast? ht
        simp at this; exact h this.symm
      simp [this, h]

theorem trim_calls (s : ByteArray) (w : World) (hs : s.size ≤ maxLen) :
    Calls Try.prog 34 #[.string s, .string ⟨#[13]⟩] w fun e w' => ∃ t, e = .returned (.string t) ∧ t.data.toList = trimB s.data.toList ∧ w' = w := by
  refine (Try.strings_TrimSuffix s ⟨#[13]⟩ w hs).mono ?_
  rintro e w' ⟨rfl, rfl⟩
  exact ⟨_, rfl, by rw [← trim_eq], rfl⟩

theorem next_none (B b : Nat) (rest line : ByteArray) (num : Nat) (sv : Value) (qs : List Sq) (bv : Value) (bases : List UInt8) (w : World) (h : RAt B b rest line num sv qs bv bases w) (h0 : rest.data.toList = []) :
    Calls Try.prog 17 #[.pointer (some ⟨b, 0, none⟩)] w fun e w' => e = .returned (.bool false) ∧ w' = w := by
  have e0 : rest.toList = [] := toList_nil.2 h0
  have hc := h.cell0
  clear h h0
  go_enter Try.func17, Try.ntmps17
  go_wp2
  go_ret
  exact ⟨rfl, rfl⟩

theorem next_calls (B b : Nat) (rest line : ByteArray) (num : Nat) (sv : Value) (qs : List Sq) (bv : Value) (bases : List UInt8) (w : World) (h : RAt B b rest line num sv qs bv bases w) (h0 : rest.data.toList ≠ []) (hs : rest.size ≤ 1048576) (hn : num ≤ 1048576) :
    Calls Try.prog 17 #[.pointer (some ⟨b, 0, none⟩)] w fun e w' => e = .returned (.bool true) ∧ ∃ r l, r.data.toList = tailB 10 rest.data.toList ∧ l.data.toList = trimB (headB 10 rest.data.toList) ∧ RAt B b r l (num + 1) sv qs bv bases w' ∧ Below B w w' := by
  have e1 : rest.toList.isEmpty = false := by cases hr : rest.toList with
    | nil => exact absurd (toList_nil.1 hr) h0
    | cons _ _ => rfl
  have HC : Hid (∀ w, Calls Try.prog 33 #[.string rest, .string ⟨#[10]⟩] w fun e w' => CutPost rest 10 w e w') := fun w => cut_calls rest 10 w (by unfold maxLen; omega)
  have HL : Hid (∀ a : ByteArray, a.data.toList = headB 10 rest.data.toList → a.size ≤ maxLen) := fun a ha => by
    rw [← size_toList, ha]; exact Nat.le_trans (headB_length_le _ _) (by rw [size_toList]; unfold maxLen; omega)
  have hc := h.cell0
  have HR : Hid (RAt B b rest line num sv qs bv bases w) := h
  clear h h0
  go_enter Try.func17, Try.ntmps17
  go_wp2_with fail
  refine (HC.out _).mono ?_
  rintro e w' ⟨a, r, n, rfl, h1, h2, hw⟩
  have HR1 : Hid (RAt B b rest line num sv qs bv bases w' ∧ Below B w w') := by
    rw [hw]
    have hb : Below w.heap.size w (w.drewN n) := below_drewN (Below.refl _ _) n
    exact ⟨HR.out.below hb, hb.mono (Nat.le_trans HR.out.base (Nat.le_of_lt HR.out.lt))⟩
  clear hw
  have HT : Hid (∀ w, Calls Try.prog 34 #[.string a, .string ⟨#[13]⟩] w fun e w' => ∃ t, e = .returned (.string t) ∧ t.data.toList = trimB a.data.toList ∧ w' = w) := fun w => trim_calls a w (HL.out a h1)
  have H12 : Hid (a.data.toList = headB 10 rest.data.toList ∧ r.data.toList = tailB 10 rest.data.toList) := ⟨h1, h2⟩
  have hf0 := HR1.out.1.frozen 0
  have hf1 := HR1.out.1.frozen 1
  have hf2 := HR1.out.1.frozen 2
  have hc1 := HR1.out.1.cell1
  have hc0 := HR1.out.1.cell0
  have hc2 := HR1.out.1.cell2
  clear h1 h2 hc HR HC HL
  go_wp2_with (go_at_call 34; refine (HT.out _).mono ?_; rintro e w'' ⟨t, rfl, h3, rfl⟩)
  go_ret
  have hB := HR1.out.1.base
  refine ⟨rfl, r, t, H12.out.2, by rw [h3, H12.out.1], ((HR1.out.1.put1 t).put0 r).put2 (num + 1) _ (by simp), ?_⟩
  exact ((HR1.out.2.setCell (p := ⟨b, 1, none⟩) hB _).setCell (p := ⟨b, 0, none⟩) hB _).setCell (p := ⟨b, 2, none⟩) hB _

theorem line_calls (B b : Nat) (rest line : ByteArray) (num : Nat) (sv : Value) (qs : List Sq) (bv : Value) (bases : List UInt8) (w : World) (h : RAt B b rest line num sv qs bv bases w) :
    Calls Try.prog 19 #[.pointer (some ⟨b, 0, none⟩)] w fun e w' => e = .returned (.string line) ∧ w' = w := by
  have hc := h.cell1
  clear h
  go_enter Try.func19, Try.ntmps19
  go_wp2
  go_ret
  exact ⟨rfl, rfl⟩

theorem number_calls (B b : Nat) (rest line : ByteArray) (num : Nat) (sv : Value) (qs : List Sq) (bv : Value) (bases : List UInt8) (w : World) (h : RAt B b rest line num sv qs bv bases w) :
    Calls Try.prog 20 #[.pointer (some ⟨b, 0, none⟩)] w fun e w' => e = .returned (.int .i64 num) ∧ w' = w := by
  have hc := h.cell2
  clear h
  go_enter Try.func20, Try.ntmps20
  go_wp2
  go_ret
  exact ⟨rfl, rfl⟩

theorem of_calls (s : ByteArray) (w : World) :
    Calls Try.prog 16 #[.string s] w fun e w' => e = .returned (.agg #[.string s, .string ⟨#[]⟩, .int .i64 0]) ∧ Below w.heap.size w w' := by
  go_enter Try.func16, Try.ntmps16
  go_wp2
  refine bodyPost_ret (v := .agg #[.string s, .string ⟨#[]⟩, .int .i64 0]) ?_ rfl ⟨rfl, (Below.refl _ _).alloc (Nat.le_refl _) _⟩
  have hres : Try.f16.results = #[.cell 2 41] := by kernel_rfl
  simp only [results, hres]
  go_simp

/-! The state of the reader -/
def Link (qs : List Sq) (bases : List UInt8) : List Pq → Prop
  | [] => qs = [] ∧ bases = []
  | q :: t => ∃ q0 qs0, qs = qs0 ++ [q0] ∧ qs0.map Sq.P = t.reverse ∧ q0.1.data.toList = q.1 ∧ q0.2.1.data.toList = q.2.1 ∧ bases = q.2.2
theorem Link.length {qs : List Sq} {bases : List UInt8} {st : List Pq} (h : Link qs bases st) : qs.length = st.length := by
  cases st with
  | nil => rw [h.1]; rfl
  | cons q t =>
    obtain ⟨q0, qs0, rfl, h1, _⟩ := h
    have := congrArg List.length h1
    simp at this ⊢; exact this
theorem Link.names {qs : List Sq} {bases : List UInt8} {st : List Pq} (h : Link qs bases st) (n : List UInt8) : namedB (qs.map Sq.P) n = namedB st n := by
  cases st with
  | nil => rw [h.1]; rfl
  | cons q t =>
    obtain ⟨q0, qs0, rfl, h1, h2, _⟩ := h
    unfold namedB
    rw [List.map_append, List.any_append, h1, List.any_reverse]
    simp [Sq.P, h2, Bool.or_comm]

theorem finish_none (B b : Nat) (rest line : ByteArray) (num : Nat) (sv : Value) (bv : Value) (bases : List UInt8) (w : World) (h : RAt B b rest line num sv [] bv bases w) :
    Calls Try.prog 21 #[.pointer (some ⟨b, 0, none⟩)] w fun e w' => e = .returned (.bool true) ∧ w' = w := by
  have hc := h.cell3
  obtain ⟨ao, cap, hsv⟩ := owned_shape h.seqs
  rw [hsv] at hc
  clear h hsv
  go_enter Try.func21, Try.ntmps21
  go_wp2
  go_ret
  exact ⟨rfl, rfl⟩

theorem finish_open (B b : Nat) (rest line : ByteArray) (num : Nat) (sv : Value) (qs : List Sq) (bv : Value) (w : World) (h : RAt B b rest line num sv qs bv [] w) (h0 : 0 < qs.length) (hm : qs.length ≤ 64) :
    Calls Try.prog 21 #[.pointer (some ⟨b, 0, none⟩)] w fun e w' => e = .returned (.bool false) ∧ w' = w := by
  have hc := h.cell3
  have hc4 := h.cell4
  obtain ⟨ao, cap, hsv⟩ := owned_shape h.seqs
  obtain ⟨ao', cap', hbv⟩ := owned_shape h.text
  rw [hsv] at hc
  rw [hbv] at hc4
  clear h hsv hbv
  generalize qs.length = n at *
  go_enter Try.func21, Try.ntmps21
  go_wp2
  go_ret
  exact ⟨rfl, rfl⟩

theorem finish_calls (B b : Nat) (rest line : ByteArray) (num : Nat) (sv : Value) (qs0 : List Sq) (q0 : Sq) (bv : Value) (bases : List UInt8) (w : World) (h : RAt B b rest line num sv (qs0 ++ [q0]) bv bases w) (hm : qs0.length < 64) (h1 : 0 < bases.length) (h2 : bases.length ≤ 65536) :
    Calls Try.prog 21 #[.pointer (some ⟨b, 0, none⟩)] w fun e w' => ∃ t bv', e = .returned (.bool true) ∧ t.data.toList = bases ∧ RAt B b rest line num sv (qs0 ++ [(q0.1, q0.2.1, t)]) bv' [] w' ∧ Below B w w' := by
  have hc3 := h.cell3
  have hc4 := h.cell4
  have hf3 := h.frozen 3
  have hf4 := h.frozen 4
  have HR : Hid (RAt B b rest line num sv (qs0 ++ [q0]) bv bases w) := h
  obtain ⟨ao, cap, hsv⟩ := owned_shape h.seqs
  obtain ⟨ao', cap', hbv⟩ := owned_shape h.text
  have hown := h.seqs
  have htxt := h.text
  clear h
  subst hsv
  subst hbv
  have hconv := owned_text htxt
  obtain ⟨g, rfl⟩ : ∃ g, ao = some ⟨g, 0, none⟩ := by
    rcases hown.2 with ⟨hv, hz⟩ | ⟨g, cap', cur, hv, _⟩
    · simp at hz
    · cases hv; exact ⟨g, rfl⟩
  have hcell := owned_cells hown ((qs0.length) * 3 + 2) (.string q0.2.2) (rowCells_get _ qs0.length q0 (by simp)).2.2
  have HO : Hid (w.ownsRow B 29 3 (.slice (some ⟨g, 0, none⟩) (qs0 ++ [q0]).length cap) (qs0 ++ [q0]).length (rowCells (qs0 ++ [q0]))) := hown
  have HT : Hid (w.ownsRow B 5 1 (.slice ao' bases.length cap') bases.length (byteVals bases)) := htxt
  clear hown htxt
  rw [show (qs0 ++ [q0]).length = qs0.length + 1 by simp] at hc3
  have HG : Hid (B ≤ g) := by
    have := (HO.out.lt g rfl).1; exact this
  obtain ⟨hcell1, hcell2⟩ := hcell
  have HL : Hid (RAt B b rest line num (.slice (some ⟨g, 0, none⟩) (qs0 ++ [q0]).length cap) (qs0 ++ [(q0.1, q0.2.1, ⟨bases.toArray⟩)]) (.slice ao' bases.length cap') bases (w.setCell ⟨g, qs0.length * 3 + 2, none⟩ (.string ⟨bases.toArray⟩))) := HR.out.lay _
  have hd4 := HL.out.cell4
  have hdf := HL.out.frozen 4
  have hconv2 : (convert 43 9 (.slice ao' bases.length cap')).run Try.prog w.drew = .ok (.string ⟨bases.toArray⟩) w.drew := owned_text (HT.out.drew)
  clear hconv
  generalize hn : qs0.length = n at *
  have HN : Hid (qs0.length = n) := hn
  clear hn
  generalize hmm : bases.length = m at *
  have HM : Hid (bases.length = m) := hmm
  clear hmm
  go_enter Try.func21, Try.ntmps21
  go_wp2
  go_region
  go_wp2
  go_ret
  refine ⟨⟨bases.toArray⟩, .slice ao' 0 cap', rfl, mk_list _, ?_, ?_⟩
  · have e : (qs0 ++ [q0]).length = n + 1 := by simp [HN.out]
    have h5 := HL.out
    rw [← HM.out] at h5
    exact h5.clear4.drew
  · exact (((Below.refl B w).setCell (p := ⟨g, n * 3 + 2, none⟩) HG.out _).setCell (p := ⟨b, 4, none⟩) HR.out.base _).drew
end Go.Proofs.Ytcleejdlmamdhaa
