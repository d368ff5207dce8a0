/-
  The walk of sam's readReference.
-/
import Derived.Lib.CutLaws
import Derived.Test.YtdhphipdpjhhbaaGreatDoorLists
import Derived.Test.YtdhphipdpjhhbaaGreatDoorReadF
namespace Go.Proofs.YtdhphipdpjhhbaaGreatDoor
open Go.RowKit

theorem index_name (t : List UInt8) : ∀ (n : List UInt8), (9 : UInt8) ∉ n → Lib.index (n ++ ([9, 76, 78, 58] ++ t)) [9, 76, 78, 58] = (n.length : Int)
  | [], _ => by simp [Lib.index]
  | b :: l, h => by
    have hb : ¬ 9 = b := fun e => h (by simp [e])
    have ih := index_name t l (fun e => h (by simp [e]))
    rw [List.cons_append, Lib.index, ih]
    have h1 : List.isPrefixOf [9, 76, 78, 58] (b :: (l ++ ([9, 76, 78, 58] ++ t))) = false := by
      simp [List.isPrefixOf, hb]
    have h2 : (((l.length : Nat) : Int) == -1) = false := by rw [beq_eq_false_iff_ne]; omega
    rw [h1, h2]
    simp
/-- What is cut out of a line: the name, the length. -/
def refCut (l : List UInt8) : List UInt8 × List UInt8 × Bool := Lib.cut (Lib.trimPrefix l [64, 83, 81, 9, 83, 78, 58]) [9, 76, 78, 58]
theorem cut_le (s sep : List UInt8) : (Lib.cut s sep).1.length ≤ s.length ∧ (Lib.cut s sep).2.1.length ≤ s.length := by
  unfold Lib.cut
  split
  · simp only [List.length_take, List.length_drop]; omega
  · simp
theorem refCut_le (l : List UInt8) : (refCut l).1.length ≤ l.length ∧ (refCut l).2.1.length ≤ l.length := by
  have h1 := cut_le (Lib.trimPrefix l [64, 83, 81, 9, 83, 78, 58]) [9, 76, 78, 58]
  have h2 : (Lib.trimPrefix l [64, 83, 81, 9, 83, 78, 58]).length ≤ l.length := by
    unfold Lib.trimPrefix
    split
    · rw [List.length_drop]; omega
    · exact Nat.le_refl _
  exact ⟨Nat.le_trans h1.1 h2, Nat.le_trans h1.2 h2⟩
theorem refCut_some {l : List UInt8} {x : Rf} (h : refLineB l = some x) : (refCut l).1 = x.1 ∧ Lib.atoiAll (refCut l).2.1 = .ok x.2 ∧ refOk x ∧ refLine x = l := by
  obtain ⟨h1, h2⟩ := refLineB_spec h
  have ht : Lib.trimPrefix l [64, 83, 81, 9, 83, 78, 58] = x.1 ++ ([9, 76, 78, 58] ++ Lib.itoa x.2) := by
    rw [← h2]
    unfold refLine refMark lenMark Lib.trimPrefix Lib.hasPrefix
    simp
  have hi := index_name (Lib.itoa x.2) x.1 (name_tab h1.1)
  have hc : refCut l = (x.1, Lib.itoa x.2, true) := by
    unfold refCut
    rw [ht, Lib.cut, hi, if_pos (by omega)]
    simp
  rw [hc]
  exact ⟨rfl, atoi_itoa (itoa_small h1.2), h1, h2⟩
/-- All that it asks. -/
theorem refRead_ok {l : List UInt8} {n : Int} (h0 : nameB (refCut l).1 = true) (h1 : 1 ≤ n) (h2 : n ≤ 65536) (h3 : refLine ((refCut l).1, n) = l) : refLineB l = some ((refCut l).1, n) := refLineB_of ⟨h0, h1, h2⟩ h3
theorem refRead_no {l : List UInt8} {n : Int} (ha : Lib.atoiAll (refCut l).2.1 = .ok n) (h : nameB (refCut l).1 = false ∨ n < 1 ∨ 65536 < n ∨ refLine ((refCut l).1, n) ≠ l) : refLineB l = none := by
  cases hr : refLineB l with
  | none => rfl
  | some x =>
    obtain ⟨h1, h2, h3, h4⟩ := refCut_some hr
    rw [ha] at h2
    cases h2
    rw [h1] at h
    rcases h with h | h | h | h
    · rw [h3.1] at h; cases h
    · have := h3.2.1; omega
    · have := h3.2.2; omega
    · exact absurd h4 h
theorem refRead_bad {l : List UInt8} (ha : ∀ z, Lib.atoiAll (refCut l).2.1 ≠ .ok z) : refLineB l = none := by
  cases hr : refLineB l with
  | none => rfl
  | some x => exact absurd (refCut_some hr).2.1 (ha _)
def RefPost (l : List UInt8) (w : World) (e : Ending) (w' : World) : Prop :=
  ∃ (n : ByteArray) (z : Int) (ok : Bool), e = .returned (.tuple #[.agg #[.string n, .int .i64 z], .bool ok]) ∧ ok = (refLineB l).isSome ∧ (∀ x, refLineB l = some x → Rv.P (n, z) = x) ∧ Below w.heap.size w w'
theorem ref_none {l : List UInt8} {w w' : World} (h : refLineB l = none) (hb : Below w.heap.size w w') : RefPost l w (.returned (.tuple #[.agg #[.string ⟨#[]⟩, .int .i64 0], .bool false])) w' :=
  ⟨_, _, _, rfl, by rw [h]; rfl, (fun x hx => by rw [h] at hx; cases hx), hb⟩
theorem cutLen_calls (s : ByteArray) (w : World) (hs : s.size ≤ 1048576) (hstd : Std w) :
    Calls Tryz.prog 43 #[.string ⟨(Lib.trimPrefix s.data.toList [64, 83, 81, 9, 83, 78, 58]).toArray⟩, .string ⟨#[9, 76, 78, 58]⟩] w fun e w' => ∃ (a b : ByteArray) (c : Bool), e = .returned (.tuple #[.string a, .string b, .bool c]) ∧ a.data.toList = (refCut s.data.toList).1 ∧ b.data.toList = (refCut s.data.toList).2.1 ∧ Below w.heap.size w w' := by
  obtain ⟨m, hm⟩ := hstd.most
  have hl := Lib.trimPrefix_le s.data.toList [64, 83, 81, 9, 83, 78, 58]
  rw [size_toList] at hl
  refine (Tryz.strings_Cut ⟨(Lib.trimPrefix s.data.toList [64, 83, 81, 9, 83, 78, 58]).toArray⟩ ⟨#[9, 76, 78, 58]⟩ m w (by rw [mk_size]; omega) hm).mono ?_
  rintro e w' ⟨rfl, n, rfl⟩
  rw [mk_list]
  exact ⟨_, _, _, rfl, mk_list _, mk_list _, below_drewN (Below.refl _ _) n⟩

set_option maxRecDepth 20000 in
set_option maxHeartbeats 4000000 in
theorem readReference_calls (s : ByteArray) (w : World) (hs : s.size ≤ 1048576) (hstd : Std w) :
    Calls Tryz.prog 95 #[.string s] w fun e w' => RefPost s.data.toList w e w' := by
  have hres : Tryz.f95.results = #[.cell 2 83, .tmp 3] := by kernel_rfl
  have HStd : Hid (∀ W, Below w.heap.size w W → Std W) := fun W hW => hstd.below hW
  clear hstd
  go_enter Tryz.func95, Tryz.ntmps95
  go_wp2_with fail
  generalize hwx : w.alloc (.cells #[.string ⟨#[]⟩, .int .i64 0] 83) = wx
  have HX : Hid (Below w.heap.size w wx ∧ wx.heap[w.heap.size]? = some (.cells #[.string ⟨#[]⟩, .int .i64 0] 83 (0, 0))) := by
    subst hwx; exact ⟨below_new _ _, heap_alloc_new w _⟩
  clear hwx
  refine (Tryz.strings_TrimPrefix s ⟨#[64, 83, 81, 9, 83, 78, 58]⟩ wx).mono ?_
  rintro e w1 ⟨rfl, rfl⟩
  have HCut : Hid (Calls Tryz.prog 43 #[.string ⟨(Lib.trimPrefix s.data.toList [64, 83, 81, 9, 83, 78, 58]).toArray⟩, .string ⟨#[9, 76, 78, 58]⟩] w1 fun e w' => ∃ (a b : ByteArray) (c : Bool), e = .returned (.tuple #[.string a, .string b, .bool c]) ∧ a.data.toList = (refCut s.data.toList).1 ∧ b.data.toList = (refCut s.data.toList).2.1 ∧ Below w1.heap.size w1 w') := cutLen_calls s w1 hs (HStd.out _ HX.out.1)
  go_wp2_with fail
  refine HCut.out.mono ?_
  rintro e w2 ⟨a, b, c, rfl, ha, hb, hb2⟩
  have HJ2 : Hid (Below w.heap.size w w2 ∧ w2.heap[w.heap.size]? = some (.cells #[.string ⟨#[]⟩, .int .i64 0] 83 (0, 0))) := ⟨HX.out.1.trans (hb2.mono HX.out.1.size), keepB HX.out.2 hb2⟩
  have hsl := refCut_le s.data.toList
  rw [size_toList, ← ha, ← hb, size_toList, size_toList] at hsl
  obtain ⟨hsa, hsb⟩ := hsl
  have HAB : Hid (a.data.toList = (refCut s.data.toList).1 ∧ b.data.toList = (refCut s.data.toList).2.1) := ⟨ha, hb⟩
  clear hb2 HX ha hb HCut
  go_wp2_with fail
  refine (atoi_calls b w2 (by omega) (HStd.out _ HJ2.out.1)).mono ?_
  rintro e w3 ⟨z, ev, rfl, hfz, hb3, hcase⟩
  have HJ3 : Hid (Below w.heap.size w w3 ∧ w3.heap[w.heap.size]? = some (.cells #[.string ⟨#[]⟩, .int .i64 0] 83 (0, 0))) := ⟨HJ2.out.1.trans (hb3.mono HJ2.out.1.size), keepB HJ2.out.2 hb3⟩
  have hfz' := hfz
  unfold fitI at hfz'
  have HFz : Hid (fitI z) := hfz
  clear hb3 HJ2 hfz
  go_wp2_with fail
  refine (clone_calls a w3 (by omega)).mono ?_
  rintro e w4 ⟨rfl, hb4⟩
  have HJ4 : Hid (Below w.heap.size w w4 ∧ w4.heap[w.heap.size]? = some (.cells #[.string ⟨#[]⟩, .int .i64 0] 83 (0, 0))) := ⟨HJ3.out.1.trans (hb4.mono HJ3.out.1.size), keepB HJ3.out.2 hb4⟩
  clear hb4 HJ3
  have hA : ∀ o, (w4.alloc o).cell? ⟨w.heap.size, 0, none⟩ = some (.string ⟨#[]⟩) := fun o => cellB (keepB HJ4.out.2 (below_new w4 o)) rfl
  have hA2 : ∀ o, (w4.alloc o).cell? ⟨w.heap.size, 1, none⟩ = some (.int .i64 0) := fun o => cellB (keepB HJ4.out.2 (below_new w4 o)) rfl
  have hF : ∀ o i, (w4.alloc o).frozen? ⟨w.heap.size, i, none⟩ = false := fun o i => freeB (keepB HJ4.out.2 (below_new w4 o)) i
  have HBo : Hid (∀ o, Below w.heap.size w (w4.alloc o)) := fun o => HJ4.out.1.alloc HJ4.out.1.size o
  have HNm : Hid (∀ W, Calls Tryz.prog 50 #[.string a] W fun e w' => e = .returned (.bool (nameB a.data.toList)) ∧ w' = W) := fun W => isName_calls a W (by unfold maxLen; omega)
  rcases hcase with ⟨hok, rfl⟩ | ⟨hno, N, rfl⟩
  case inr =>
    have HN : Hid (refLineB s.data.toList = none) := refRead_bad (by rw [← HAB.out.2]; exact hno)
    clear hno HNm
    go_wp2
    refine bodyPost_ret (v := .tuple #[.agg #[.string ⟨#[]⟩, .int .i64 0], .bool false]) ?_ rfl (ref_none HN.out ?_)
    · simp only [results, hres]
      go_simp
    · exact ((HBo.out _).setCell (Nat.le_refl _) _).setCell (Nat.le_refl _) _
  rw [HAB.out.2] at hok
  have HOk : Hid (Lib.atoiAll (refCut s.data.toList).2.1 = .ok z) := hok
  clear hok
  cases hname : nameB a.data.toList with
  | false =>
    have HN : Hid (refLineB s.data.toList = none) := refRead_no HOk.out (.inl (by rw [← HAB.out.1]; exact hname))
    rw [hname] at HNm
    clear hname
    go_wp2_with (go_at_call 50; refine (HNm.out _).mono ?_; rintro e w' ⟨rfl, rfl⟩)
    refine bodyPost_ret (v := .tuple #[.agg #[.string ⟨#[]⟩, .int .i64 0], .bool false]) ?_ rfl (ref_none HN.out ?_)
    · simp only [results, hres]
      go_simp
    · exact ((HBo.out _).setCell (Nat.le_refl _) _).setCell (Nat.le_refl _) _
  | true =>
  rw [hname] at HNm
  by_cases h1 : z < 1
  · have HN : Hid (refLineB s.data.toList = none) := refRead_no HOk.out (.inr (.inl h1))
    have d1 : decide (z < 1) = true := by simp [h1]
    clear hname
    go_wp2_with (go_at_call 50; refine (HNm.out _).mono ?_; rintro e w' ⟨rfl, rfl⟩)
    refine bodyPost_ret (v := .tuple #[.agg #[.string ⟨#[]⟩, .int .i64 0], .bool false]) ?_ rfl (ref_none HN.out ?_)
    · simp only [results, hres]
      go_simp
    · exact ((HBo.out _).setCell (Nat.le_refl _) _).setCell (Nat.le_refl _) _
  have d1 : decide (z < 1) = false := by simp; omega
  by_cases h2 : 65536 < z
  · have HN : Hid (refLineB s.data.toList = none) := refRead_no HOk.out (.inr (.inr (.inl h2)))
    have d2 : decide (z > 65536) = true := by simp [h2]
    clear hname
    go_wp2_with (go_at_call 50; refine (HNm.out _).mono ?_; rintro e w' ⟨rfl, rfl⟩)
    refine bodyPost_ret (v := .tuple #[.agg #[.string ⟨#[]⟩, .int .i64 0], .bool false]) ?_ rfl (ref_none HN.out ?_)
    · simp only [results, hres]
      go_simp
    · exact ((HBo.out _).setCell (Nat.le_refl _) _).setCell (Nat.le_refl _) _
  have d2 : decide (z > 65536) = false := by simp; omega
  have HNa : Hid (nameB (refCut s.data.toList).1 = true) := by show nameB _ = true; rw [← HAB.out.1]; exact hname
  have HLn : Hid (∀ W, Below w.heap.size w W → Calls Tryz.prog 68 #[.agg #[.string a, .int .i64 z]] W fun e w' => StrPost (refLine (Rv.P (a, z))) W e w') := fun W hW => refLine2_calls (a, z) W ⟨by show a.size ≤ _; omega, HFz.out⟩ (HStd.out W hW)
  have HBx : Hid (∀ o, (w4.alloc o).heap[w.heap.size]? = some (.cells #[.string ⟨#[]⟩, .int .i64 0] 83 (0, 0)) ∧ (w4.alloc o).heap[w4.heap.size]? = some o) := fun o => ⟨keepB HJ4.out.2 (below_new w4 o), heap_alloc_new w4 o⟩
  clear hname hA hA2 hF HJ4
  go_wp2_with (first | (go_at_call 50; refine (HNm.out _).mono ?_; rintro e w' ⟨rfl, rfl⟩) | fail)
  have hB5 := HBo.out (.cells #[.string a, .int .i64 z] 83)
  have hX5 := HBx.out (.cells #[.string a, .int .i64 z] 83)
  have HJ5 : Hid (Below w.heap.size w (w4.alloc (.cells #[.string a, .int .i64 z] 83)) ∧ (w4.alloc (.cells #[.string a, .int .i64 z] 83)).heap[w.heap.size]? = some (.cells #[.string ⟨#[]⟩, .int .i64 0] 83 (0, 0)) ∧ (w4.alloc (.cells #[.string a, .int .i64 z] 83)).heap[w4.heap.size]? = some (.cells #[.string a, .int .i64 z] 83 (0, 0))) := ⟨hB5, hX5.1, hX5.2⟩
  clear hB5 hX5 HBo HBx
  generalize w4.alloc (.cells #[.string a, .int .i64 z] 83) = w5 at *
  refine (HLn.out _ HJ5.out.1).mono ?_
  rintro e w6 ⟨t, rfl, ht, hb6⟩
  have HT : Hid (t.data.toList = refLine (Rv.P (a, z))) := ht
  have HJ6 : Hid (Below w.heap.size w w6) := HJ5.out.1.trans (hb6.mono HJ5.out.1.size)
  have y0 := cellB (keepB HJ5.out.2.1 hb6) (i := 0) rfl
  have y1 := cellB (keepB HJ5.out.2.1 hb6) (i := 1) rfl
  have yf := freeB (keepB HJ5.out.2.1 hb6)
  have z0 := cellB (keepB HJ5.out.2.2 hb6) (i := 0) rfl
  have z1 := cellB (keepB HJ5.out.2.2 hb6) (i := 1) rfl
  clear ht hb6 HJ5 HLn
  have hP : Rv.P (a, z) = ((refCut s.data.toList).1, z) := by rw [← HAB.out.1]; rfl
  by_cases he : t.toList = s.toList
  · have he1 : (t.toList == s.toList) = true := by rw [beq_iff_eq]; exact he
    have HS : Hid (refLineB s.data.toList = some (Rv.P (a, z))) := by
      show refLineB _ = _
      rw [hP]
      refine refRead_ok HNa.out (by omega) (by omega) ?_
      rw [← hP, ← HT.out]
      rwa [ByteArray.toList_eq, ByteArray.toList_eq] at he
    clear he hP
    go_wp2
    refine bodyPost_ret (v := .tuple #[.agg #[.string a, .int .i64 z], .bool true]) ?_ rfl ⟨a, z, true, rfl, by rw [HS.out]; rfl, (fun x hx => by rw [HS.out] at hx; cases hx; rfl), ?_⟩
    · simp only [results, hres]
      go_simp
    · exact (HJ6.out.setCell (Nat.le_refl _) _).setCell (Nat.le_refl _) _
  · have he1 : (t.toList == s.toList) = false := by rw [beq_eq_false_iff_ne]; exact he
    have HN : Hid (refLineB s.data.toList = none) := refRead_no HOk.out (.inr (.inr (.inr (fun e => he (by rw [ByteArray.toList_eq, ByteArray.toList_eq, HT.out, hP, e])))))
    clear he hP
    go_wp2
    refine bodyPost_ret (v := .tuple #[.agg #[.string ⟨#[]⟩, .int .i64 0], .bool false]) ?_ rfl (ref_none HN.out ?_)
    · simp only [results, hres]
      go_simp
    · exact (HJ6.out.setCell (Nat.le_refl _) _).setCell (Nat.le_refl _) _
end Go.Proofs.YtdhphipdpjhhbaaGreatDoor
