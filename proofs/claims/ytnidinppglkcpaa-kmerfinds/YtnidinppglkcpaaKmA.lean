/-
  New, and what it asks for.
-/
import Derived.Test.YtnidinppglkcpaaKmF
import Derived.Test.YtnidinppglkcpaaShelf
import Derived.WalkMore
import Derived.Deep.LoopGhost
import Derived.Deep.Cut
namespace Go.Proofs.Ytnidinppglkcpaa
open Go.RowKit Go.Maps

/-- Why there is no index: 0: there is one. -/
def refB (k : Int) (refs : List Wd) : Int :=
  if k < 1 ∨ 16 < k then 210 else if 64 < refs.length then 2 else if refs.any (fun s => decide (65536 < s.length)) = true ∨ 1048576 < total refs then 2 else 0
theorem ref_ok {k : Int} {refs : List Wd} (h : refB k refs = 0) : 1 ≤ k ∧ k ≤ 16 ∧ refs.length ≤ 64 ∧ (∀ s ∈ refs, s.length ≤ 65536) ∧ total refs ≤ 1048576 := by
  unfold refB at h
  split at h
  · cases h
  split at h
  · cases h
  split at h
  · cases h
  rename_i h1 h2 h3
  rw [not_or] at h3
  refine ⟨by omega, by omega, by omega, fun s hs => ?_, by omega⟩
  have h4 := h3.1
  rw [List.any_eq_true] at h4
  exact Classical.byContradiction fun h5 => h4 ⟨s, hs, by simp; omega⟩
theorem total_take (l : List Wd) (j : Nat) (h : j < l.length) : total (l.take (j + 1)) = total (l.take j) + (l.getD j []).length := by
  rw [List.take_succ_eq_append_getElem h, total_snoc]
  simp [List.getD, List.getElem?_eq_getElem h]
theorem total_bd (l : List Wd) : ∀ j, j ≤ l.length → (∀ m, m < j → (l.getD m []).length ≤ 65536) → total (l.take j) ≤ 65536 * j
  | 0, _, _ => by simp [total]
  | j + 1, h, hm => by
    have := total_bd l j (by omega) (fun m hm' => hm m (by omega))
    have := hm j (by omega)
    rw [total_take l j (by omega)]; omega
theorem any_too {l : List Wd} {j : Nat} (hj : j < l.length) (h : 65536 < (l.getD j []).length) : l.any (fun s => decide (65536 < s.length)) = true := by
  rw [List.any_eq_true]
  refine ⟨l[j], List.getElem_mem hj, ?_⟩
  simpa [List.getD, List.getElem?_eq_getElem hj] using h
theorem any_not {l : List Wd} (h : ∀ m, m < l.length → (l.getD m []).length ≤ 65536) : l.any (fun s => decide (65536 < s.length)) = false := by
  cases e : l.any (fun s => decide (65536 < s.length)) with
  | false => rfl
  | true =>
    obtain ⟨s, hs, h1⟩ := List.any_eq_true.1 e
    obtain ⟨j, hj, rfl⟩ := List.getElem_of_mem hs
    have := h j hj
    simp [List.getD, List.getElem?_eq_getElem hj] at this h1
    omega
set_option maxHeartbeats 1000000 in
theorem refused_calls (k : Int) (refs : List Wd) (ao : Option Addr) (n c : Nat) (w : World) (h : WdsAt w ao n refs) (hb : ∀ s ∈ refs, s.length ≤ maxLen) :
    Calls Try.prog 20 #[.int .i64 k, .slice ao n c] w fun e w' => e = .returned (.int .i64 (refB k refs)) ∧ w' = w := by
  have hl := h.length
  have HW : Hid (WdsAt w ao n refs) := h
  have HB : Hid (∀ s ∈ refs, s.length ≤ maxLen) := hb
  have HL : Hid (refs.length = n) := hl
  clear h hb
  by_cases h1 : k < 1
  · have d1 : decide (k < 1) = true := by simpa using h1
    have HE : Hid (refB k refs = 210) := by show _ = _; unfold refB; rw [if_pos (.inl h1)]
    go_enter Try.func20, Try.ntmps20
    go_wp2
    go_ret
    exact ⟨ret_int HE.out.symm, rfl⟩
  by_cases h2 : 16 < k
  · have d1 : decide (k < 1) = false := by simp; omega
    have d2 : decide (16 < k) = true := by simpa using h2
    have HE : Hid (refB k refs = 210) := by show _ = _; unfold refB; rw [if_pos (.inr h2)]
    go_enter Try.func20, Try.ntmps20
    go_wp2
    go_ret
    exact ⟨ret_int HE.out.symm, rfl⟩
  have d1 : decide (k < 1) = false := by simp; omega
  have d2 : decide (16 < k) = false := by simp; omega
  have HK : Hid (¬ (k < 1 ∨ 16 < k)) := by show ¬ _; omega
  by_cases h3 : 64 < n
  · have d3 : decide ((64 : Int) < (n : Int)) = true := decide_eq_true (by omega)
    have HE : Hid (refB k refs = 2) := by show _ = _; unfold refB; rw [if_neg HK.out, if_pos (by omega)]
    go_enter Try.func20, Try.ntmps20
    go_wp2
    go_ret
    exact ⟨ret_int HE.out.symm, rfl⟩
  have d3 : decide ((64 : Int) < (n : Int)) = false := by simp; omega
  have HN : Hid (n ≤ 64) := by show _ ≤ _; omega
  clear h1 h2 h3 hl
  go_enter Try.func20, Try.ntmps20
  go_wp2
  go_loopg [5, 21] n (fun g a i wr => ∃ j : Nat, j + g = n ∧ a = .int .i64 (total (refs.take j) : Nat) ∧ i = .int .i64 j ∧ wr = w ∧ ∀ m, m < j → (refs.getD m []).length ≤ 65536)
  case atStart => exact ⟨0, Nat.zero_add _, rfl, rfl, rfl, fun m hm => by omega⟩
  case round =>
    obtain ⟨j, hj, rfl, rfl, rfl, hall⟩ := hrel
    have HA : Hid (∀ m, m < j → (refs.getD m []).length ≤ 65536) := hall
    have hbd := total_bd refs j (by have := HL.out; omega) hall
    have hN := HN.out
    clear hall
    by_cases hlt : j < n
    · have hdlt : decide ((j : Int) < (n : Int)) = true := by simpa using hlt
      obtain ⟨b, off, rfl, hcs⟩ := HW.out.cells (by omega)
      have hc1 := hcs j hlt
      clear hcs
      have HT : Hid (total (refs.take (j + 1)) = total (refs.take j) + (refs.getD j []).length) := total_take refs j (by have := HL.out; omega)
      have HZ : Hid (refs.getD j [] ∈ refs) := by show _ ∈ _; rw [List.getD, List.getElem?_eq_getElem (by have := HL.out; omega)]; exact List.getElem_mem _
      have HG : Hid (65536 < (refs.getD j []).length → refB k refs = 2) := by
        intro hg
        unfold refB; rw [if_neg HK.out, if_neg (by have := HL.out; omega), if_pos (.inl (any_too (by have := HL.out; omega) hg))]
      have HS : Hid ((refs.getD j []).length ≤ 65536 → ∀ m, m < j + 1 → (refs.getD m []).length ≤ 65536) := by
        intro hg m hm
        by_cases e : m = j
        · subst e; exact hg
        · exact HA.out m (by omega)
      have HM : Hid ((refs.getD j []).length ≤ maxLen) := HB.out _ HZ.out
      clear HZ
      generalize refs.getD j [] = s at *
      have hz : (bs s).size = s.length := bs_size _
      by_cases hg : 65536 < s.length
      · have HE : Hid (refB k refs = 2) := HG.out hg
        have hdg : decide ((65536 : Int) < ((bs s).size : Int)) = true := decide_eq_true (by omega)
        go_wp2
        try rw [Exit.noGoto_ret]
        go_ret
        exact ⟨ret_int HE.out.symm, rfl⟩
      · have hdg : decide ((65536 : Int) < ((bs s).size : Int)) = false := decide_eq_false (by omega)
        go_wp2
        go_roundg (gk - 1)
        case rel => exact ⟨j + 1, by omega, by rw [HT.out]; go_num, by go_num, rfl, HS.out (by omega)⟩
        case measure => omega
    · have hdlt : decide ((j : Int) < (n : Int)) = false := by simp; omega
      have HJ : Hid (refs.take j = refs) := by show _ = _; exact List.take_of_length_le (by have := HL.out; omega)
      rw [HJ.out]
      rw [HJ.out] at hbd
      have HE : Hid (refB k refs = if 1048576 < total refs then 2 else 0) := by
        show _ = _
        unfold refB
        rw [if_neg HK.out, if_neg (by have := HL.out; omega), any_not (fun m hm => HA.out m (by have := HL.out; omega))]
        simp
      by_cases hg : 1048576 < total refs
      · have hdg : decide ((1048576 : Int) < (total refs : Int)) = true := decide_eq_true (by omega)
        go_wp2
        try rw [Exit.noGoto_ret]
        go_ret
        exact ⟨ret_int (by rw [HE.out, if_pos hg]), rfl⟩
      · have hdg : decide ((1048576 : Int) < (total refs : Int)) = false := by simp; omega
        go_wp2
        try rw [Exit.noGoto_ret]
        go_ret
        exact ⟨ret_int (by rw [HE.out, if_neg hg]), rfl⟩

/-- A store into the map, as one step of a statement that leaves its order open. -/
theorem step_mapUpdate {P : Program} {ops : Array Oper} {o : Oper} {a : Act} {w w' : World} {K : Act → World → Prop} {Q : Exit → Act → World → Prop} {E : Prop}
    (hg : o.guard = none) (m x v : Operand) (t : TypeId) (hop : o.op = Op.mapUpdate t m x v) (vm vx vv : Value) (hm : a.eval m = vm) (hx : a.eval x = vx) (hv : a.eval v = vv)
    (hrun : (Instr.mapUpdate t vm vx vv).run P w = .ok () w') (hK : K (a.put o.dst undef) w') :
    if Region.wanted o (yielded ops a.tmps) = true then Oper.wp P o a w K Q else E := by
  have hw : Region.wanted o (yielded ops a.tmps) = true := by simp [Region.wanted, hg]
  rw [if_pos hw]
  unfold Oper.wp
  simp [execOp, hop, hm, hx, hv, hrun, Result.andThen]
  exact hK
theorem ex_list (s : Wd) (i j : Nat) : (bs s).extract i j = bs ((s.take j).drop i) := by
  refine byte_ext ?_
  rw [bs_list, ByteArray.data_extract, Array.toList_extract, List.extract_eq_take_drop]
  simp [bs, List.drop_take]
theorem slice_run (s : ByteArray) (k q : Nat) (h1 : k ≤ q) (h2 : q ≤ s.size) (w : World) : (Instr.slice 9 (.string s) (some (.int .i64 (k : Int))) (some (.int .i64 (q : Int))) none).run Try.prog w = .ok (.string (s.extract k q)) w := by
  go_simp
theorem sl_word (s : Wd) (j k r : Nat) (h : j + k ≤ s.length) (w : World) :
    (Instr.slice 9 (.string (bs s)) (some (.int .i64 (j : Int))) (some (.int .i64 ((j : Int) + (k : Int)))) none).run Try.prog w = .ok (.string (bs (oc1 k r s j).1)) w := by
  have e1 : (j : Int) + (k : Int) = ((j + k : Nat) : Int) := by omega
  have e2 : (bs s).extract j (j + k) = bs (oc1 k r s j).1 := by
    rw [ex_list, oc1, List.drop_take]
    congr 2
    omega
  rw [e1, ← e2]
  have hz := bs_size s
  exact slice_run _ _ _ (Nat.le_add_right _ _) (by omega) w
theorem cell_al {W : World} {p : Addr} {v : Value} (h : W.cell? p = some v) (o : Obj) : (W.alloc o).cell? p = some v := by
  rw [(below_new o).cell (World.block_lt_of_cell? W _ h)]; exact h
theorem cells_new2 (W : World) (cs : List Value) (t : TypeId) : ∀ j u, cs[j]? = some u → (W.alloc (.cells cs.toArray t)).cell? ((⟨W.heap.size, 0, none⟩ : Addr).add j) = some u := by
  intro j u hu
  rw [Addr.add_mid, Nat.zero_add]
  exact cell_block (heap_alloc_new W _) j u (by simpa using hu)
theorem occ1_take (k r : Nat) (s : Wd) (j : Nat) (h : j + k ≤ s.length) : (occ1 k r s).take (j + 1) = (occ1 k r s).take j ++ [oc1 k r s j] := by
  rw [List.take_add_one]
  congr 1
  have h1 : (occ1 k r s)[j]? = some (oc1 k r s j) := by
    rw [occ1, List.getElem?_map, List.getElem?_range (by omega)]; rfl
  rw [h1]; rfl
theorem clone_str (s : ByteArray) (w : World) (hlim : s.size ≤ 281474976710656) : Calls Try.prog 24 #[.string s] w fun e w' => e = .returned (.string s) ∧ Below w.heap.size w w' := by
  have hc := Try.stringslite_Clone s w hlim
  go_enter Try.func24, Try.ntmps24
  go_wp2_with (first
    | (go_at_call 27; refine hc.mono ?_; rintro e w' ⟨rfl, hb⟩)
    | go_in)
  go_ret
  exact ⟨rfl, hb⟩
set_option maxRecDepth 10000 in
set_option maxHeartbeats 2000000 in
theorem addAll_calls {w : World} {base x mb : Nat} {K : Int} {L : List Oc} {f : Wd → Value} (h : IxAt w base x mb K L f) (hx : base ≤ x) (hm : base ≤ mb) (hsz : base ≤ w.heap.size) (k r : Nat) (hk1 : 1 ≤ k) (hk2 : k ≤ 16) (s : Wd) (hs : s.length ≤ 65536) (hL : L.length ≤ 1048576) :
    Calls Try.prog 22 #[.pointer (some ⟨x, 0, none⟩), .int .i64 k, .int .i64 r, .string (bs s)] w fun e w' => e = .returned (.tuple #[]) ∧ ∃ f', IxAt w' base x mb K (L ++ occ1 k r s) f' ∧ Below base w w' := by
  obtain ⟨i0, hi, hz0, hz1, hz2⟩ := info_parts info46
  have HI : Hid (Try.prog.info? 46 = some i0 ∧ i0.zero = some (.agg #[.int .i64 0, .int .i64 0]) ∧ i0.size = 2 ∧ i0.bytes = 16) := ⟨hi, hz0, hz1, hz2⟩
  have hz := bs_size s
  have HX : Hid (IxAt w base x mb K L f) := h
  have HB : Hid (base ≤ x ∧ base ≤ mb ∧ base ≤ w.heap.size) := ⟨hx, hm, hsz⟩
  have hcl := clone_str (bs s) w (by rw [hz]; omega)
  clear h hx hm hsz hi hz0 hz1 hz2
  go_enter Try.func22, Try.ntmps22
  go_wp2_with (first
    | (go_at_call 24; refine hcl.mono ?_; rintro e w1 ⟨rfl, hb1⟩)
    | go_in)
  have HW : Hid (IxAt w1 base x mb K L f ∧ Below base w w1 ∧ base ≤ w1.heap.size) := ⟨HX.out.below hb1, hb1.mono HB.out.2.2, Nat.le_trans HB.out.2.2 hb1.size⟩
  clear hb1 hcl HX
  go_loopg [18] (s.length + 1 - k) (fun g i wr => ∃ (j : Nat) (f' : Wd → Value), j + g = s.length + 1 - k ∧ i = .int .i64 j ∧ IxAt wr base x mb K (L ++ (occ1 k r s).take j) f' ∧ Below base w wr ∧ base ≤ wr.heap.size)
  case atStart => exact ⟨0, f, Nat.zero_add _, rfl, by simpa using HW.out.1, HW.out.2⟩
  case round =>
    obtain ⟨j, f', hj, rfl, hix, hbel, hsw⟩ := hrel
    have HR : Hid (IxAt wr base x mb K (L ++ (occ1 k r s).take j) f' ∧ Below base w wr ∧ base ≤ wr.heap.size) := ⟨hix, hbel, hsw⟩
    clear hix hbel hsw HW
    by_cases hlt : j + k ≤ s.length
    · have hdlt : decide ((j : Int) < ((bs s).size : Int) - (k : Int) + 1) = true := by rw [hz]; simp; omega
      have hsl := sl_word s j k r hlt
      have HT : Hid ((occ1 k r s).take (j + 1) = (occ1 k r s).take j ++ [oc1 k r s j]) := occ1_take k r s j hlt
      have HO : Hid ((oc1 k r s j).1.length = k) := oc1_len hlt
      have HP : Hid ((oc1 k r s j).2 = ((r : Int), (j : Int))) := rfl
      have HN : Hid ((L ++ (occ1 k r s).take j).length ≤ 1200000) := by show _ ≤ _; simp [occ1_len]; omega
      obtain ⟨wd, hwd⟩ : ∃ wd, wd = (oc1 k r s j).1 := ⟨_, rfl⟩
      obtain ⟨L', hL'⟩ : ∃ L', L' = L ++ (occ1 k r s).take j := ⟨_, rfl⟩
      have HQ : Hid (L ++ (occ1 k r s).take (j + 1) = L' ++ [(wd, ((r : Int), (j : Int)))]) := by show _ = _; rw [HT.out, ← List.append_assoc, ← hL', hwd]; rfl
      rw [← hwd] at HO hsl
      rw [← hL'] at HR HN
      clear HT HP hwd hL'
      go_upto_region 5 with (fail)
      obtain ⟨es, clock, hmm⟩ := HR.out.1.mp.isMap
      have HM : Hid (wr.heap[mb]? = some (.map es clock)) := hmm
      have HK : Hid (∀ W : World, W.heap[mb]? = some (.map es clock) → (Instr.lookup 34 (.map (some mb)) (.string (bs wd)) false).run Try.prog W = .ok (f' wd) W) := fun W hW => HR.out.1.mp.look wd (by have := HO.out; unfold maxLen; omega) (hW.trans hmm.symm)
      have HS : Hid (wr.drew.cell? ⟨x, 0, none⟩ = some (.map (some mb)) ∧ wr.drew.heap[mb]? = some (.map es clock)) := ⟨HR.out.1.c0, hmm⟩
      have HR1 : Hid (IxAt wr.drew base x mb K L' f') := HR.out.1.drew
      clear hmm hsl
      refine wp_region_Y (fun j => [16].contains j) (fun W : World => W.cell? ⟨x, 0, none⟩ = some (.map (some mb)) ∧ W.heap[mb]? = some (.map es clock)) (by kernel_rfl) ?_
      refine wpAnyY_pure (i := 0) 27 (v := .pointer (some ⟨x, 0, none⟩)) rfl rfl (by kernel_rfl) (by kernel_rfl) (by kernel_rfl) (fun _ _ _ h => h) (Or.inl ⟨by rfl, by (intro W _; go_simp)⟩) ?_
      simp only [Act.put, List.setIfInBounds_toArray, List.set_cons_succ, List.set_cons_zero]
      refine wpAnyY_pure (i := 1) 28 (v := .pointer (some ⟨x, 0, none⟩)) rfl rfl (by kernel_rfl) (by kernel_rfl) (by kernel_rfl) (fun _ _ _ h => h) (Or.inl ⟨by rfl, by (intro W _; go_simp)⟩) ?_
      simp only [Act.put, List.setIfInBounds_toArray, List.set_cons_succ, List.set_cons_zero]
      refine wpAnyY_pure (i := 2) 29 (v := .pointer (some ⟨x, 0, none⟩)) rfl rfl (by kernel_rfl) (by kernel_rfl) (by kernel_rfl) (fun _ _ _ h => h) (Or.inl ⟨by rfl, by (intro W _; go_simp)⟩) ?_
      simp only [Act.put, List.setIfInBounds_toArray, List.set_cons_succ, List.set_cons_zero]
      refine wpAnyY_takeD (i := 3) 30 (v := .map (some mb)) rfl rfl (by kernel_rfl) (by kernel_rfl) (late_of (by kernel_rfl)) (by kernel_rfl) (by kernel_rfl) (fun _ _ _ h => h) HS.out (Or.inl ⟨by rfl, by (intro W hW; obtain ⟨e0, e1⟩ := hW; go_simp)⟩) ?_
      simp only [Act.put, List.setIfInBounds_toArray, List.set_cons_succ, List.set_cons_zero]
      refine wpAnyY_pure (i := 4) 31 (v := .string (bs wd)) rfl rfl (by kernel_rfl) (by kernel_rfl) (by kernel_rfl) (fun _ _ _ h => h) (Or.inl ⟨by rfl, by (intro W _; go_simp)⟩) ?_
      simp only [Act.put, List.setIfInBounds_toArray, List.set_cons_succ, List.set_cons_zero]
      refine wpAnyY_pure (i := 5) 32 (v := .pointer (some ⟨x, 0, none⟩)) rfl rfl (by kernel_rfl) (by kernel_rfl) (by kernel_rfl) (fun _ _ _ h => h) (Or.inl ⟨by rfl, by (intro W _; go_simp)⟩) ?_
      simp only [Act.put, List.setIfInBounds_toArray, List.set_cons_succ, List.set_cons_zero]
      refine wpAnyY_pure (i := 6) 33 (v := .pointer (some ⟨x, 0, none⟩)) rfl rfl (by kernel_rfl) (by kernel_rfl) (by kernel_rfl) (fun _ _ _ h => h) (Or.inl ⟨by rfl, by (intro W _; go_simp)⟩) ?_
      simp only [Act.put, List.setIfInBounds_toArray, List.set_cons_succ, List.set_cons_zero]
      refine wpAnyY_pure (i := 7) 34 (v := .pointer (some ⟨x, 0, none⟩)) rfl rfl (by kernel_rfl) (by kernel_rfl) (by kernel_rfl) (fun _ _ _ h => h) (Or.inl ⟨by rfl, by (intro W _; go_simp)⟩) ?_
      simp only [Act.put, List.setIfInBounds_toArray, List.set_cons_succ, List.set_cons_zero]
      refine wpAnyY_takeD (i := 8) 35 (v := .map (some mb)) rfl rfl (by kernel_rfl) (by kernel_rfl) (late_of (by kernel_rfl)) (by kernel_rfl) (by kernel_rfl) (fun _ _ _ h => h) HS.out (Or.inl ⟨by rfl, by (intro W hW; obtain ⟨e0, e1⟩ := hW; go_simp)⟩) ?_
      simp only [Act.put, List.setIfInBounds_toArray, List.set_cons_succ, List.set_cons_zero]
      refine wpAnyY_pure (i := 9) 36 (v := .string (bs wd)) rfl rfl (by kernel_rfl) (by kernel_rfl) (by kernel_rfl) (fun _ _ _ h => h) (Or.inl ⟨by rfl, by (intro W _; go_simp)⟩) ?_
      simp only [Act.put, List.setIfInBounds_toArray, List.set_cons_succ, List.set_cons_zero]
      refine wpAnyY_takeD (i := 10) 37 (v := f' wd) rfl rfl (by kernel_rfl) (by kernel_rfl) (late_of (by kernel_rfl)) (by kernel_rfl) (by kernel_rfl) (fun _ _ _ h => h) HS.out (Or.inl ⟨by rfl, by (intro W hW; have hq := HK.out W hW.2; go_simp)⟩) ?_
      simp only [Act.put, List.setIfInBounds_toArray, List.set_cons_succ, List.set_cons_zero]
      refine wpAnyY_pure (i := 11) 38 (v := .int .i64 r) rfl rfl (by kernel_rfl) (by kernel_rfl) (by kernel_rfl) (fun _ _ _ h => h) (Or.inl ⟨by rfl, by (intro W _; go_simp)⟩) ?_
      simp only [Act.put, List.setIfInBounds_toArray, List.set_cons_succ, List.set_cons_zero]
      refine wpAnyY_pure (i := 12) 39 (v := .int .i64 j) rfl rfl (by kernel_rfl) (by kernel_rfl) (by kernel_rfl) (fun _ _ _ h => h) (Or.inl ⟨by rfl, by (intro W _; go_simp)⟩) ?_
      simp only [Act.put, List.setIfInBounds_toArray, List.set_cons_succ, List.set_cons_zero]
      refine wpAnyY_pure (i := 13) 40 (v := .agg #[.int .i64 r, .int .i64 j]) rfl rfl (by kernel_rfl) (by kernel_rfl) (by kernel_rfl) (fun _ _ _ h => h) (Or.inl ⟨by rfl, by (intro W _; go_simp)⟩) ?_
      simp only [Act.put, List.setIfInBounds_toArray, List.set_cons_succ, List.set_cons_zero]
      refine wpAnyY_one (i := 14) rfl (by kernel_rfl) (fun Kc hKc => ?_)
      go_simp
      refine hKc.out _ _ (fun _ h => ⟨cell_al h.1 _, ((below_new (w := wr) _).block _ (lt_block h.2)).trans h.2⟩) ?_
      clear hKc Kc
      have HR2 : Hid (IxAt (wr.drew.alloc (.cells (plCells ((r : Int), (j : Int))).toArray 46)) base x mb K L' f') := HR1.out.alloc _
      have HM2 : Hid ((wr.drew.alloc (.cells (plCells ((r : Int), (j : Int))).toArray 46)).heap[mb]? = some (.map es clock)) := ((below_new (w := wr) _).block _ (lt_block HM.out)).trans HM.out
      refine wpAnyY_one (i := 15) rfl (by kernel_rfl) (fun Kc hKc => ?_)
      refine step_append_fresh rfl (.tmp 37) (.tmp 41) 42 rfl base 46 i0 _ 2 16 Try.underlying42 HI.out.1 HI.out.2.1 HI.out.2.2.1 HI.out.2.2.2 rfl (by decide) (f' wd) _ _ (by simp [Act.eval]) (HR2.out.mp.rows wd) ⟨wr.heap.size, 0, none⟩ 1 1 (plCells ((r : Int), (j : Int))) (by simp [Act.eval]) rfl (cells_new2 wr.drew _ 46) (plc_one _) (by have := HN.out; have := pls_len L' wd; unfold maxLen; omega) (by have := HN.out; have := pls_len L' wd; omega) (by have := HR.out.2.2; simp; omega) ?_
      intro v wa o1 o2 o3
      refine hKc.out _ _ (fun _ _ => ⟨cell_block ((o2.block _ HR2.out.lt (own_other (HR2.out.mp.rows wd) HR2.out.box (by intro cur e; cases e))).trans HR2.out.box) 0 _ rfl, (o2.block _ HR2.out.mp.lt (own_other (HR2.out.mp.rows wd) HM2.out (by intro cur e; cases e))).trans HM2.out⟩) ?_
      clear hKc Kc
      obtain ⟨w2, hrun, y1, f1, hix2, hbel2, hsz2⟩ := HR2.out.put HB.out.1 HB.out.2.1 (by have := HR.out.2.2; simp; omega) wd (by have := HO.out; unfold maxLen; omega) (by have := HN.out; omega) ((r : Int), (j : Int)) o1 o2 o3
      have HY : Hid (IxAt (w2.setCell ⟨x, 1, none⟩ (.int .i64 ((L'.length : Int) + 1))) base x mb K (L' ++ [(wd, ((r : Int), (j : Int)))]) (upF f' wd v) ∧ Below base w (w2.setCell ⟨x, 1, none⟩ (.int .i64 ((L'.length : Int) + 1))) ∧ base ≤ w2.heap.size) := ⟨hix2, ((HR.out.2.1.drew).alloc HR.out.2.2 _).trans hbel2, Nat.le_trans HR.out.2.2 (Nat.le_trans (by simp) hsz2)⟩
      clear hix2 hbel2 hsz2 o1 o2 o3
      simp only [Act.put]
      refine wpAnyY_one (i := 16) rfl (by kernel_rfl) (fun Kc hKc => ?_)
      refine step_mapUpdate rfl (.tmp 30) (.tmp 31) (.tmp 42) 34 rfl _ _ _ (by simp [Act.eval]) (by simp [Act.eval]) (by simp [Act.eval]) hrun ?_
      refine hKc.out _ _ (fun h => absurd h (by decide)) ?_
      clear hKc Kc
      simp only [Act.put]
      refine wpAnyY_done (by kernel_rfl) ?_ _
      clear hrun HS HK HM HR1 HR2 HR
      have hN := HN.out
      go_wp2
      go_roundg (gk - 1)
      case rel => exact ⟨j + 1, _, by omega, by go_num, by rw [HQ.out]; exact HY.out.1, HY.out.2.1, by simpa using HY.out.2.2⟩
      case measure => omega
    · have hdlt : decide ((j : Int) < ((bs s).size : Int) - (k : Int) + 1) = false := by rw [hz]; simp; omega
      have HE : Hid ((occ1 k r s).take j = occ1 k r s) := by show _ = _; exact List.take_of_length_le (by rw [occ1_len]; omega)
      go_wp2
      go_end0
      exact ⟨rfl, f', by have := HR.out.1; rw [HE.out] at this; exact this, HR.out.2.1⟩

end Go.Proofs.Ytnidinppglkcpaa
