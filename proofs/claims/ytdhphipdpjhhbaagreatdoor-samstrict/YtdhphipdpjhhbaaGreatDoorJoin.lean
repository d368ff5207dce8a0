/-
  The walks of sam's tabbed, join, Line.
-/
import Derived.Test.YtdhphipdpjhhbaaGreatDoorStd
namespace Go.Proofs.YtdhphipdpjhhbaaGreatDoor
open Go.RowKit

/-- What a function that tells a text leaves. -/
def StrPost (l : List UInt8) (w : World) (e : Ending) (w' : World) : Prop := ∃ t : ByteArray, e = .returned (.string t) ∧ t.data.toList = l ∧ Below w.heap.size w w'
theorem tabbed_calls (bk o n c : Nat) (xs : List ByteArray) (w : World) (hn : xs.length = n) (hcells : ∀ (j : Nat) x, xs[j]? = some x → w.cell? ⟨bk, o + j, none⟩ = some (.string x)) (hbk : bk < w.heap.size) (hc : n ≤ c) (hN : n ≤ 1000)
    (hlen : (tabs (xs.map (·.data.toList))).length ≤ 140737488355328) :
    Calls Tryz.prog 55 #[.slice (some ⟨bk, o, none⟩) n c] w fun e w' => StrPost (tabs (xs.map (·.data.toList))) w e w' := by
  subst hn
  have HJ := Tryz.strings_Join bk o c xs ⟨#[9]⟩ w hcells hbk (by omega) hc hlen
  have HJ' : Hid (Calls Tryz.prog 81 #[.slice (some ⟨bk, o, none⟩) xs.length c, .string ⟨#[9]⟩] w fun e w' => e = .returned (.string ⟨(tabs (xs.map (·.data.toList))).toArray⟩) ∧ Below w.heap.size w w') := HJ
  clear HJ hcells hlen
  generalize xs.length = n at *
  go_enter Tryz.func55, Tryz.ntmps55
  go_wp2_with (go_at_call 81; refine HJ'.out.mono ?_; rintro e w' ⟨rfl, hb⟩)
  go_ret
  exact ⟨_, rfl, mk_list _, hb⟩
def joinV (f : FV) : List UInt8 := if f.score.data.toList = [] then tabs (f.eleven.map (·.data.toList)) else tabs (f.eleven.map (·.data.toList)) ++ 9 :: f.score.data.toList
theorem tabs_two (x y : List UInt8) : tabs [x, y] = x ++ 9 :: y := by
  unfold tabs; rw [join_two, Lib.join_one]
theorem row_cells {W : World} {k : Nat} {cs : Array Value} {t : TypeId} {xs : List ByteArray} (h : W.heap[k]? = some (.cells cs t (0, 0))) (hc : cs.toList = xs.map Value.string) : ∀ (j : Nat) x, xs[j]? = some x → W.cell? ⟨k, 0 + j, none⟩ = some (.string x) := by
  intro j x hj
  rw [Lib.cell_of_heap h, Nat.zero_add, ← Array.getElem?_toList, hc, List.getElem?_map, hj]
  rfl

set_option maxRecDepth 20000 in
set_option maxHeartbeats 2000000 in
theorem join_calls (f : FV) (w : World) (hs : f.score.size ≤ 1000000000000) (hlen : (tabs (f.eleven.map (·.data.toList))).length ≤ 1000000000000) :
    Calls Tryz.prog 28 #[f.val] w fun e w' => StrPost (joinV f) w e w' := by
  have HT : Hid (∀ W k, W.heap[k]? = some (.cells (f.eleven.map Value.string).toArray 9 (0, 0)) → Calls Tryz.prog 55 #[.slice (some ⟨k, 0, none⟩) 11 11] W fun e w' => StrPost (tabs (f.eleven.map (·.data.toList))) W e w') := by
    intro W k hk
    exact tabbed_calls k 0 11 11 f.eleven W rfl (row_cells hk rfl) (lt_block hk) (by decide) (by decide) (by omega)
  have HT2 : Hid (∀ W k (t : ByteArray), t.data.toList = tabs (f.eleven.map (·.data.toList)) → W.heap[k]? = some (.cells #[.string t, .string f.score] 9 (0, 0)) → Calls Tryz.prog 55 #[.slice (some ⟨k, 0, none⟩) 2 2] W fun e w' => StrPost (tabs (f.eleven.map (·.data.toList)) ++ 9 :: f.score.data.toList) W e w') := by
    intro W k t ht hk
    have := tabbed_calls k 0 2 2 [t, f.score] W rfl (row_cells hk rfl) (lt_block hk) (by decide) (by decide) (by
      simp only [List.map_cons, List.map_nil, tabs_two, ht, List.length_append, List.length_cons, size_toList]; omega)
    simp only [List.map_cons, List.map_nil, tabs_two, ht] at this
    exact this
  have HJ : Hid (joinV f = if f.score.data.toList = [] then tabs (f.eleven.map (·.data.toList)) else tabs (f.eleven.map (·.data.toList)) ++ 9 :: f.score.data.toList) := rfl
  obtain ⟨a0, a1, a2, a3, a4, a5, a6, a7, a8, a9, a10, a11⟩ := f
  generalize joinV ⟨a0, a1, a2, a3, a4, a5, a6, a7, a8, a9, a10, a11⟩ = J at *
  generalize tabs ((FV.eleven ⟨a0, a1, a2, a3, a4, a5, a6, a7, a8, a9, a10, a11⟩).map (·.data.toList)) = T at *
  simp only [FV.eleven, List.map_cons, List.map_nil] at HT
  simp only [FV.val]
  go_enter Tryz.func28, Tryz.ntmps28
  go_wp2_with fail
  refine (HT.out _ _ (alloc2_heap w _ _).2.1).mono ?_
  rintro e w1 ⟨t, rfl, ht, hb⟩
  have hbox : w1.heap[w.heap.size]? = some (.cells #[.string a0, .string a1, .string a2, .string a3, .string a4, .string a5, .string a6, .string a7, .string a8, .string a9, .string a10, .string a11] 57 (0, 0)) := by
    rw [hb.block _ (by simp; omega)]; exact (alloc2_heap w _ _).1
  have hc11 : w1.cell? ⟨w.heap.size, 11, none⟩ = some (.string a11) := by rw [Lib.cell_of_heap hbox]; rfl
  have HB : Hid (Below w.heap.size w w1) := (alloc2_heap w _ _).2.2.trans (hb.mono (by simp; omega))
  have HTt : Hid (t.data.toList = T) := ht
  clear hb hbox HT ht
  by_cases h0 : a11.toList = []
  · have HE : Hid (J = T) := by show _ = _; rw [HJ.out, if_pos (toList_nil.1 h0)]
    clear HT2 HJ
    go_wp2
    go_ret
    exact ⟨t, rfl, by rw [HTt.out, HE.out], HB.out⟩
  · have HE : Hid (J = T ++ 9 :: a11.data.toList) := by show _ = _; rw [HJ.out, if_neg (fun e => h0 (toList_nil.2 e))]
    have hem : a11.toList.isEmpty = false := by rw [List.isEmpty_eq_false_iff]; exact h0
    clear HJ
    go_wp2_with fail
    refine (HT2.out _ _ t HTt.out (heap_alloc_new w1 _)).mono ?_
    rintro e w2 ⟨u, rfl, hu, hb2⟩
    have HB2 : Hid (Below w.heap.size w w2) := HB.out.trans ((below_box hb2).mono HB.out.size)
    have HU : Hid (u.data.toList = J) := by show _ = _; rw [hu, HE.out]
    clear hb2 hu HT2
    go_wp2
    go_ret
    exact ⟨u, rfl, HU.out, HB2.out⟩

/-- A record's line, or the error. -/
def lineA (r : Rec) : List UInt8 × Int := if rightR r then (lineR r, 0) else ([], 51)
theorem tabs_snoc (l : List (List UInt8)) (h : l ≠ []) (x : List UInt8) : tabs (l ++ [x]) = tabs l ++ 9 :: x := by
  unfold tabs
  induction l with
  | nil => exact absurd rfl h
  | cons a l ih =>
    cases l with
    | nil => rw [List.singleton_append, join_two, Lib.join_one, Lib.join_one]
    | cons b l =>
      rw [List.cons_append, List.cons_append, join_two, ← List.cons_append, ih (by simp), join_two]
      simp
theorem FV.L_inj {f : FV} {r : Rec} (h : f.L = twelveF r) : f.eleven.map (·.data.toList) = elevenF r ∧ f.score.data.toList = scoreF r := by
  have := List.append_inj' h rfl
  exact ⟨this.1, by simpa using this.2⟩
theorem joinV_line {f : FV} {r : Rec} (h : f.L = twelveF r) : joinV f = lineR r := by
  obtain ⟨h1, h2⟩ := FV.L_inj h
  unfold joinV lineR fieldsF
  rw [h1, h2]
  cases hm : r.mapped with
  | false => simp [scoreF, hm]
  | true => simp only [scoreF, hm, if_true, if_neg (scoreT_ne _)]; rw [tabs_snoc _ (by simp [elevenF])]
theorem textB_len : ∀ (l : List Rn), (∀ r ∈ l, r.2 ≤ 131072) → (textB l).length ≤ l.length * 22
  | [], _ => by simp [textB]
  | r :: l, h => by
    have ih := textB_len l (fun x hx => h x (by simp [hx]))
    have h1 := h r (by simp)
    have h2 : (Lib.decDigits r.2.toNat).length ≤ 21 := by
      have := Lib.itoa_length_le (r.2.toNat : Int) (by omega) (by omega)
      rwa [Lib.itoa_nonneg] at this
    have e : textB (r :: l) = Lib.decDigits r.2.toNat ++ (r.1 :: textB l) := by simp [textB]
    rw [e]
    simp only [List.length_append, List.length_cons]
    omega
theorem textA_len {l : List Rn} (h : rightB l = true) : (textA l).1.length ≤ 2883628 := by
  rw [textA, if_pos h]
  have h1 := textB_len l (fun r hr => (right_each h r hr).2.2)
  have h2 := right_few h
  by_cases h0 : l = []
  · subst h0; simp
  · simp only [if_neg h0]; omega
theorem join_len {c : UInt8} : ∀ (l : List (List UInt8)) (M : Nat), (∀ x ∈ l, x.length ≤ M) → (Lib.join l [c]).length ≤ l.length * (M + 1)
  | [], _, _ => by simp [Lib.join_nil]
  | [x], M, h => by rw [Lib.join_one]; have := h x (by simp); simp; omega
  | x :: y :: r, M, h => by
    rw [join_two]
    have h1 := join_len (c := c) (y :: r) M (fun z hz => h z (by simp [hz]))
    have h2 := h x (by simp)
    simp only [List.length_append, List.length_cons] at h1 ⊢
    have h3 : (r.length + 1 + 1) * (M + 1) = (r.length + 1) * (M + 1) + (M + 1) := by rw [Nat.succ_mul]
    omega
/-- Right records' fields are short. -/
theorem right_short {r : Rec} (h : rightR r = true) (hs : fit64 r.score) : (∀ x ∈ elevenF r, x.length ≤ 2883628) ∧ (scoreF r).length ≤ 26 := by
  have h1 := rightR_read h
  have hn := name_short h1.name
  have hb : r.bases.length ≤ 65536 := by
    have := h1.bases
    simp only [basesB, Bool.and_eq_true, decide_eq_true_eq] at this
    exact this.2.1
  have hq : r.quals.length ≤ 65536 := by rw [h1.long]; exact hb
  have hsc := Lib.itoa_length_le r.score hs.1 hs.2
  unfold elevenF scoreF
  simp only [List.forall_mem_cons]
  cases hm : r.mapped with
  | false =>
    simp [flagF, refF, posF, qualF, runsF, hm]
    omega
  | true =>
    have h2 := rightR_map h hm
    have hr := name_short h2.ref
    have hp := Lib.itoa_length_le r.pos h2.pos_fit.1 h2.pos_fit.2
    have ht := textA_len h2.runs
    simp [flagF, refF, posF, qualF, runsF, hm, scoreT]
    omega
theorem tabs_short {l : List (List UInt8)} (h : ∀ x ∈ l, x.length ≤ 2883628) (hl : l.length ≤ 12) : (tabs l).length ≤ 34603548 := by
  have := join_len (c := 9) l 2883628 h
  have h2 : l.length * (2883628 + 1) ≤ 12 * (2883628 + 1) := Nat.mul_le_mul_right _ hl
  unfold tabs
  omega
theorem lineR_short {r : Rec} (h : rightR r = true) (hs : fit64 r.score) : (lineR r).length ≤ 34603548 := by
  obtain ⟨h1, h2⟩ := right_short h hs
  unfold lineR
  refine tabs_short (fun x hx => ?_) (by unfold fieldsF elevenF; split <;> simp)
  unfold fieldsF at hx
  split at hx
  · rename_i hm
    rcases List.mem_append.1 hx with hx | hx
    · exact h1 x hx
    · simp at hx; subst hx; unfold scoreF at h2; rw [if_pos hm] at h2; omega
  · exact h1 x hx

set_option maxRecDepth 20000 in
set_option maxHeartbeats 2000000 in
theorem line_calls (v : RV) (l : List Rn) (w : World) (h : RecOk w v l) (hs : Std w) :
    Calls Tryz.prog 12 #[v.val] w fun e w' => TextPost (lineA (v.R l)) w e w' := by
  have HR : Hid (∀ W, Below w.heap.size w W → Calls Tryz.prog 27 #[v.val] W fun e w' => e = .returned (.bool (rightR (v.R l))) ∧ Below W.heap.size W w') := fun W hW => isRight_calls v l W (h.below hW)
  have HW : Hid (∀ W, Below w.heap.size w W → Calls Tryz.prog 29 #[v.val] W fun e w' => ∃ f : FV, e = .returned f.val ∧ f.L = twelveF (v.R l) ∧ Below W.heap.size W w') := fun W hW => write_calls v l W (h.below hW) (hs.below hW)
  have hsc : fit64 (v.R l).score := h.score
  clear h hs
  cases hr : rightR (v.R l) with
  | false =>
    have HE : Hid (lineA (v.R l) = ([], 51)) := by show _ = _; rw [lineA, hr]; rfl
    rw [hr] at HR
    generalize v.R l = r at *
    obtain ⟨nm, m, rf, p, ao, len, cap, b, q, s⟩ := v
    simp only [RV.val] at *
    clear HW hr hsc
    go_enter Tryz.func12, Tryz.ntmps12
    go_wp2_with (go_at_call 27; refine (HR.out _ (below_new _ _)).mono ?_; rintro e w1 ⟨rfl, hb1⟩)
    go_ret2
    exact text_post HE.out rfl (below_box hb1)
  | true =>
    have HE : Hid (lineA (v.R l) = (lineR (v.R l), 0)) := by show _ = _; rw [lineA, hr]; rfl
    have HJ : Hid (∀ f : FV, f.L = twelveF (v.R l) → ∀ W, Calls Tryz.prog 28 #[f.val] W fun e w' => StrPost (lineR (v.R l)) W e w') := by
      intro f hf W
      obtain ⟨h1, h2⟩ := FV.L_inj hf
      obtain ⟨h3, h4⟩ := right_short hr hsc
      have := join_calls f W (by rw [← size_toList, h2]; omega) (by rw [h1]; have := tabs_short h3 (by simp [elevenF]); omega)
      rwa [joinV_line hf] at this
    rw [hr] at HR
    generalize v.R l = r at *
    obtain ⟨nm, m, rf, p, ao, len, cap, b, q, s⟩ := v
    simp only [RV.val] at *
    clear hr hsc
    go_enter Tryz.func12, Tryz.ntmps12
    go_wp2_with fail
    refine (HR.out _ (below_new _ _)).mono ?_
    rintro e w1 ⟨rfl, hb1⟩
    have c0 := box_cell hb1 (i := 0) rfl
    have c1 := box_cell hb1 (i := 1) rfl
    have c2 := box_cell hb1 (i := 2) rfl
    have c3 := box_cell hb1 (i := 3) rfl
    have c4 := box_cell hb1 (i := 4) rfl
    have c5 := box_cell hb1 (i := 5) rfl
    have c6 := box_cell hb1 (i := 6) rfl
    have c7 := box_cell hb1 (i := 7) rfl
    have HB1 : Hid (Below w.heap.size w w1) := below_box hb1
    clear hb1 HR
    go_wp2_with fail
    refine (HW.out _ HB1.out).mono ?_
    rintro e w2 ⟨f, rfl, hf, hb2⟩
    have HB2 : Hid (Below w.heap.size w w2) := HB1.out.trans (hb2.mono HB1.out.size)
    have HJ2 : Hid (Calls Tryz.prog 28 #[f.val] w2 fun e w' => StrPost (lineR r) w2 e w') := HJ.out f hf w2
    clear hb2 HW HJ hf c0 c1 c2 c3 c4 c5 c6 c7
    go_wp2_with fail
    refine HJ2.out.mono ?_
    rintro e w3 ⟨t, rfl, ht, hb3⟩
    have HP : Hid (TextPost (lineA r) w (.returned (.tuple #[.string t, .int .i64 0])) w3) := text_post HE.out ht (HB2.out.trans (hb3.mono HB2.out.size))
    clear hb3 ht HJ2
    go_wp2
    go_ret2
    exact HP.out
end Go.Proofs.YtdhphipdpjhhbaaGreatDoor
