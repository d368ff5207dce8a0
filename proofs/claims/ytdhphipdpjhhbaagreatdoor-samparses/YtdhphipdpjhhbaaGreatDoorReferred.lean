/-
  The walk of the document's own referred.
-/
import Derived.Test.YtdhphipdpjhhbaaGreatDoorRefRecord
import Derived.Test.YtdhphipdpjhhbaaGreatDoorReadRef
namespace Go.Proofs.YtdhphipdpjhhbaaGreatDoor
open Go.RowKit

/-- The three fields of a reference's line. -/
theorem cuts_ref {l : List UInt8} {x : Rf} (h : refLineB l = some x) : cuts 9 l = [[64, 83, 81], [83, 78, 58] ++ x.1, [76, 78, 58] ++ Lib.itoa x.2] := by
  obtain ⟨h1, h2⟩ := refLineB_spec h
  have ht : l = [64, 83, 81] ++ 9 :: (([83, 78, 58] ++ x.1) ++ 9 :: ([76, 78, 58] ++ Lib.itoa x.2)) := by rw [← h2]; simp [refLine, refMark, lenMark]
  have n1 : (9 : UInt8) ∉ [83, 78, 58] ++ x.1 := by
    intro hm
    rcases List.mem_append.1 hm with hm | hm
    · revert hm; decide
    · exact name_tab h1.1 hm
  have n2 : (9 : UInt8) ∉ [76, 78, 58] ++ Lib.itoa x.2 := by
    intro hm
    rcases List.mem_append.1 hm with hm | hm
    · revert hm; decide
    · have := itoa_each x.2 9 hm
      revert this; decide
  rw [ht, cuts_app _ (by decide), cuts_app _ n1, cuts_not_mem n2]
/-- What the fields tell, if it is one. -/
theorem cuts_tell {l : List UInt8} {x : Rf} {y0 y1 y2 : List UInt8} (h : refLineB l = some x) (hc : cuts 9 l = [y0, y1, y2]) : y1.drop 3 = x.1 ∧ readNum (y2.drop 3) = x.2 ∧ 3 ≤ y1.length ∧ 4 ≤ y2.length ∧ refOk x ∧ refLine x = l := by
  have h1 := cuts_ref h
  rw [hc] at h1
  injection h1 with _ h1
  injection h1 with h2 h1
  injection h1 with h3 _
  obtain ⟨h4, h5⟩ := refLineB_spec h
  subst h2 h3
  refine ⟨rfl, ?_, by simp, ?_, h4, h5⟩
  · show readNum (Lib.itoa x.2) = x.2
    exact readNum_itoa (itoa_small h4.2)
  · have := List.length_pos_iff.2 (itoa_ne x.2)
    rw [List.length_append]; show 4 ≤ 3 + _; omega
theorem referred_no {l : List UInt8} {y0 y1 y2 : List UInt8} (hc : cuts 9 l = [y0, y1, y2]) (h : y1.length < 3 ∨ y2.length < 4 ∨ nameB (y1.drop 3) = false ∨ readNum (y2.drop 3) < 1 ∨ 65536 < readNum (y2.drop 3) ∨ refLine (y1.drop 3, readNum (y2.drop 3)) ≠ l) : refLineB l = none := by
  cases hr : refLineB l with
  | none => rfl
  | some x =>
    obtain ⟨h1, h2, h3, h4, h5, h6⟩ := cuts_tell hr hc
    rw [h1, h2] at h
    rcases h with h | h | h | h | h | h
    · omega
    · omega
    · rw [h5.1] at h; cases h
    · have := h5.2.1; omega
    · have := h5.2.2; omega
    · exact absurd h6 h
theorem referred_few {l : List UInt8} (h : (cuts 9 l).length ≠ 3) : refLineB l = none := by
  cases hr : refLineB l with
  | none => rfl
  | some x => rw [cuts_ref hr] at h; exact absurd rfl h
def ReferPost (l : List UInt8) (w : World) (e : Ending) (w' : World) : Prop :=
  ∃ (n : ByteArray) (z : Int) (ok : Bool), e = .returned (.tuple #[.string n, .int .i64 z, .bool ok]) ∧ ok = (refLineB l).isSome ∧ (∀ x, refLineB l = some x → Rv.P (n, z) = x) ∧ Below w.heap.size w w'
theorem refer_none {l : List UInt8} {w w' : World} {n : ByteArray} {z : Int} (h : refLineB l = none) (hb : Below w.heap.size w w') : ReferPost l w (.returned (.tuple #[.string n, .int .i64 z, .bool false])) w' :=
  ⟨_, _, _, rfl, by rw [h]; rfl, (fun x hx => by rw [h] at hx; cases hx), hb⟩
theorem three {α : Type} {l : List α} (h : l.length = 3) : ∃ a b c, l = [a, b, c] := by
  match l, h with
  | [a, b, c], _ => exact ⟨a, b, c, rfl⟩

set_option maxRecDepth 20000 in
set_option maxHeartbeats 4000000 in
theorem referred_calls (s : ByteArray) (w : World) (hs : s.size ≤ 1048576) :
    Calls Tryz.prog 45 #[.string s] w fun e w' => ReferPost s.data.toList w e w' := by
  go_enter Tryz.func45, Tryz.ntmps45
  go_wp2_with fail
  refine (refFields_calls s _ hs).mono ?_
  rintro e w1 ⟨v, ls, rfl, hls, hown, hb1⟩
  have HB1 : Hid (Below w.heap.size w w1) := hb1
  have hcl : (cuts 9 s.data.toList).length = ls.length := by rw [← hls, List.length_map]
  clear hb1
  by_cases h3 : ls.length = 3
  case neg =>
    have HN : Hid (refLineB s.data.toList = none) := referred_few (by rw [hcl]; exact h3)
    obtain ⟨ao, cap, rfl⟩ := owned_shape hown
    have hd : ((ls.length : Int) != 3) = true := by rw [bne_iff_ne]; omega
    clear hown hls hcl h3
    generalize ls.length = n at *
    go_wp2
    refine bodyPost_ret (v := .tuple #[.string ⟨#[]⟩, .int .i64 0, .bool false]) (by simp [results, Tryz.results45, go_sem]) rfl (refer_none HN.out HB1.out)
  obtain ⟨x0, x1, x2, rfl⟩ := three h3
  obtain ⟨gL, cap, rfl, _, _, _, _⟩ := owned_some hown (by simp)
  have c1 := (owned_cells hown 1 (.string x1) rfl).1
  have c2 := (owned_cells hown 2 (.string x2) rfl).1
  have hc : cuts 9 s.data.toList = [x0.data.toList, x1.data.toList, x2.data.toList] := hls.symm
  have hsz : ∀ x ∈ [x0, x1, x2], x.size ≤ 1048576 := fun x hx => by
    have hp := cuts_piece 9 _ s.data.toList (Nat.le_refl _) x.data.toList (by rw [← hls]; exact List.mem_map.2 ⟨x, hx, rfl⟩)
    rw [size_toList, size_toList] at hp; omega
  have hz1 := hsz x1 (by simp)
  have hz2 := hsz x2 (by simp)
  have HC : Hid (cuts 9 s.data.toList = [x0.data.toList, x1.data.toList, x2.data.toList]) := hc
  clear hown hls hcl h3 hc hsz
  have hd : (([x0, x1, x2].length : Int) != 3) = false := rfl
  have hn1 : (1 : Int) < ([x0, x1, x2].length : Int) := by simp
  have hn2 : (2 : Int) < ([x0, x1, x2].length : Int) := by simp
  generalize [x0, x1, x2].length = N at *
  by_cases hl1 : x1.size < 3
  · have HN : Hid (refLineB s.data.toList = none) := referred_no HC.out (.inl (by rw [size_toList]; exact hl1))
    have d1 : decide ((x1.size : Int) < 3) = true := by simp; omega
    go_wp2
    refine bodyPost_ret (v := .tuple #[.string ⟨#[]⟩, .int .i64 0, .bool false]) (by simp [results, Tryz.results45, go_sem]) rfl (refer_none HN.out HB1.out)
  have d1 : decide ((x1.size : Int) < 3) = false := by simp; omega
  by_cases hl2 : x2.size < 4
  · have HN : Hid (refLineB s.data.toList = none) := referred_no HC.out (.inr (.inl (by rw [size_toList]; exact hl2)))
    have d2 : decide ((x2.size : Int) < 4) = true := by simp; omega
    go_wp2
    refine bodyPost_ret (v := .tuple #[.string ⟨#[]⟩, .int .i64 0, .bool false]) (by simp [results, Tryz.results45, go_sem]) rfl (refer_none HN.out HB1.out)
  have d2 : decide ((x2.size : Int) < 4) = false := by simp; omega
  obtain ⟨a, ha⟩ : ∃ a : ByteArray, x1.extract 3 x1.size = a := ⟨_, rfl⟩
  have hal : a.data.toList = x1.data.toList.drop 3 := by rw [← ha, extract_mid, mid, List.take_of_length_le (by rw [size_toList]; exact Nat.le_refl _)]
  have hsl1 : ∀ W, (Instr.slice 9 (.string x1) (some (.int .i64 3)) none none).run Tryz.prog W = .ok (.string a) W := fun W => by
    rw [run_slice_string_from_if W 9 x1 .i64 3 Tryz.underlying9, if_pos (by omega)]
    rw [← ha]; rfl
  obtain ⟨c, hcx⟩ : ∃ c : ByteArray, x2.extract 3 x2.size = c := ⟨_, rfl⟩
  have hcl : c.data.toList = x2.data.toList.drop 3 := by rw [← hcx, extract_mid, mid, List.take_of_length_le (by rw [size_toList]; exact Nat.le_refl _)]
  have hsl2 : ∀ W, (Instr.slice 9 (.string x2) (some (.int .i64 3)) none none).run Tryz.prog W = .ok (.string c) W := fun W => by
    rw [run_slice_string_from_if W 9 x2 .i64 3 Tryz.underlying9, if_pos (by omega)]
    rw [← hcx]; rfl
  have has : a.size ≤ 1048576 := by rw [← size_toList, hal, List.length_drop, size_toList]; omega
  have hcs : c.size ≤ 1048576 := by rw [← size_toList, hcl, List.length_drop, size_toList]; omega
  have HRd : Hid (∀ W, Calls Tryz.prog 36 #[.string c] W fun e w' => e = .returned (.int .i64 (readNum c.data.toList)) ∧ w' = W) := fun W => refRead_calls c W hcs
  have HNm : Hid (∀ W, Calls Tryz.prog 46 #[.string a] W fun e w' => e = .returned (.bool (nameB a.data.toList)) ∧ w' = W) := fun W => refName_calls a W (by unfold maxLen; omega)
  have HNo : Hid (nameB a.data.toList = false ∨ readNum c.data.toList < 1 ∨ 65536 < readNum c.data.toList ∨ refLine (a.data.toList, readNum c.data.toList) ≠ s.data.toList → refLineB s.data.toList = none) := fun h => by
    rw [hal, hcl] at h
    exact referred_no HC.out (.inr (.inr h))
  have hrf := readNum_fit c.data.toList
  unfold fit64 at hrf
  clear ha hal hcx hcl HC hl1 hl2
  generalize readNum c.data.toList = z at *
  cases hnm : nameB a.data.toList with
  | false =>
    have HN : Hid (refLineB s.data.toList = none) := HNo.out (.inl hnm)
    rw [hnm] at HNm
    clear hnm HNo
    go_wp2_with (first | (go_at_call 36; refine (HRd.out _).mono ?_; rintro e w' ⟨rfl, rfl⟩) | (go_at_call 46; refine (HNm.out _).mono ?_; rintro e w' ⟨rfl, rfl⟩))
    refine bodyPost_ret (v := .tuple #[.string ⟨#[]⟩, .int .i64 0, .bool false]) (by simp [results, Tryz.results45, go_sem]) rfl (refer_none HN.out HB1.out)
  | true =>
  rw [hnm] at HNm
  by_cases h1 : z < 1
  · have HN : Hid (refLineB s.data.toList = none) := HNo.out (.inr (.inl h1))
    have e1 : decide (z < 1) = true := by simp [h1]
    clear hnm HNo
    go_wp2_with (first | (go_at_call 36; refine (HRd.out _).mono ?_; rintro e w' ⟨rfl, rfl⟩) | (go_at_call 46; refine (HNm.out _).mono ?_; rintro e w' ⟨rfl, rfl⟩))
    refine bodyPost_ret (v := .tuple #[.string ⟨#[]⟩, .int .i64 0, .bool false]) (by simp [results, Tryz.results45, go_sem]) rfl (refer_none HN.out HB1.out)
  have e1 : decide (z < 1) = false := by simp; omega
  by_cases h2 : 65536 < z
  · have HN : Hid (refLineB s.data.toList = none) := HNo.out (.inr (.inr (.inl h2)))
    have e2 : decide (z > 65536) = true := by simp [h2]
    clear hnm HNo
    go_wp2_with (first | (go_at_call 36; refine (HRd.out _).mono ?_; rintro e w' ⟨rfl, rfl⟩) | (go_at_call 46; refine (HNm.out _).mono ?_; rintro e w' ⟨rfl, rfl⟩))
    refine bodyPost_ret (v := .tuple #[.string ⟨#[]⟩, .int .i64 0, .bool false]) (by simp [results, Tryz.results45, go_sem]) rfl (refer_none HN.out HB1.out)
  have e2 : decide (z > 65536) = false := by simp; omega
  have HNa : Hid (nameB a.data.toList = true) := hnm
  have HNu : Hid (∀ W, Calls Tryz.prog 31 #[.int .i64 z] W fun e w' => ∃ t : ByteArray, e = .returned (.string t) ∧ t.data.toList = Lib.itoa z ∧ w' = W) := fun W => number_calls z W ⟨by omega, by omega⟩
  obtain ⟨s1, hs1, hc1⟩ : ∃ s1 : ByteArray, s1 = ⟨#[64, 83, 81, 9, 83, 78, 58]⟩ ++ a ∧ ∀ W, (Op.stringOp .add ⟨#[64, 83, 81, 9, 83, 78, 58]⟩ a).run Tryz.prog W = .ok (.string s1) W := ⟨_, rfl, fun W => run_string_add_sum W _ _ (by show 7 + a.size ≤ _; omega)⟩
  have hz1' : s1.size ≤ 1048600 := by rw [hs1, ← size_toList, ba_append, List.length_append, size_toList]; show 7 + _ ≤ _; rw [size_toList]; omega
  obtain ⟨s2, hs2, hc2⟩ : ∃ s2 : ByteArray, s2 = s1 ++ ⟨#[9, 76, 78, 58]⟩ ∧ ∀ W, (Op.stringOp .add s1 ⟨#[9, 76, 78, 58]⟩).run Tryz.prog W = .ok (.string s2) W := ⟨_, rfl, fun W => run_string_add_sum W _ _ (by show s1.size + 4 ≤ _; omega)⟩
  have hz2' : s2.size ≤ 1048700 := by rw [hs2, ← size_toList, ba_append, List.length_append, size_toList]; show _ + 4 ≤ _; omega
  have HS12 : Hid (s2.data.toList = refMark ++ (a.data.toList ++ lenMark)) := by
    show _ = _
    rw [hs2, ba_append, hs1, ba_append, List.append_assoc]; rfl
  clear hs1 hs2 hnm
  go_wp2_with (first | (go_at_call 36; refine (HRd.out _).mono ?_; rintro e w' ⟨rfl, rfl⟩) | (go_at_call 46; refine (HNm.out _).mono ?_; rintro e w' ⟨rfl, rfl⟩) | fail)
  refine (HNu.out _).mono ?_
  rintro e w' ⟨t, rfl, ht, rfl⟩
  have hts : t.size ≤ 21 := by
    rw [← size_toList, ht]
    exact Lib.itoa_length_le z (by omega) (by omega)
  have hc3 : ∀ W, (Op.stringOp .add s2 t).run Tryz.prog W = .ok (.string (s2 ++ t)) W := fun W => run_string_add_sum W _ _ (by omega)
  have HLn : Hid ((s2 ++ t).data.toList = refLine (a.data.toList, z)) := by
    show _ = _
    rw [ba_append, HS12.out, ht]; simp [refLine]
  clear ht HS12 hts
  generalize s2 ++ t = u at *
  by_cases he : s.toList = u.toList
  · have he1 : (s.toList == u.toList) = true := by rw [beq_iff_eq]; exact he
    have HS : Hid (refLineB s.data.toList = some (Rv.P (a, z))) := refLineB_of ⟨HNa.out, by show 1 ≤ z; omega, by show z ≤ 65536; omega⟩ (by rw [ByteArray.toList_eq, ByteArray.toList_eq] at he; rw [he]; exact HLn.out.symm)
    clear he
    go_wp2
    refine bodyPost_ret (v := .tuple #[.string a, .int .i64 z, .bool true]) (by simp [results, Tryz.results45, go_sem]) rfl ⟨a, z, true, rfl, by rw [HS.out]; rfl, (fun x hx => by rw [HS.out] at hx; cases hx; rfl), HB1.out⟩
  · have he1 : (s.toList == u.toList) = false := by rw [beq_eq_false_iff_ne]; exact he
    have HN : Hid (refLineB s.data.toList = none) := HNo.out (.inr (.inr (.inr (fun e => he (by rw [ByteArray.toList_eq, ByteArray.toList_eq, HLn.out, e])))))
    clear he
    go_wp2
    refine bodyPost_ret (v := .tuple #[.string a, .int .i64 z, .bool false]) (by simp [results, Tryz.results45, go_sem]) rfl (refer_none HN.out HB1.out)
end Go.Proofs.YtdhphipdpjhhbaaGreatDoor
