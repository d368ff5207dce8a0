/-
  The document's New.
-/
import Derived.Test.YtnidinppglkcpaaKmW
import Derived.Laws.CopyOwn
namespace Go.Proofs.Ytnidinppglkcpaa
open Go.RowKit Go.Maps

theorem size9 : (Try.prog.info? 9).map (·.size) = some 1 := by kernel_rfl
/-- copy of a row: all is read before anything is written. -/
theorem run_copyG {T E : TypeId} {z : Nat} (hu : Try.prog.underlying T = some (.slice E)) (hz : (Try.prog.info? E).map (·.size) = some z) (w : World) (ty : TypeId) (g dLen dCap : Nat) (a : Addr) (sLen sCap : Nat) (cur : Array Value) (cs : List Value) (hg : w.heap[g]? = some (.cells cur E (0, 0))) (hn : cs.length = Nat.min sLen dLen * z)
    (hsrc : ∀ j v, cs[j]? = some v → w.cell? (a.add j) = some v) (hfit : cs.length ≤ cur.size) (h1 : ∀ v ∈ cs, v.oneCell' = true) :
    (Builtin.copy_ #[T, T] ty #[.slice (some ⟨g, 0, none⟩) dLen dCap, .slice (some a) sLen sCap]).run Try.prog w = .ok (goInt (Nat.min sLen dLen)) (w.setRow g (cs ++ cur.toList.drop cs.length).toArray) := by
  have hl := run_loadCells_list (P := Try.prog) w a cs hsrc
  have hst := run_storeCells_at Try.prog g 0 E cs 0 cur w hg (by simpa using hfit) h1
  cases hq : Try.prog.info? E with
  | none => simp [hq] at hz
  | some i =>
    have hi : i.size = z := by simpa [hq] using hz
    simp [Builtin.copy_, run_underlying hu, Builtin.lenOf, Builtin.firstCells, sizeOf, typeInfo, hq, hi, ← hn, hl, hst]
theorem getD_get {zs : List Wd} {k : Nat} (h : k < zs.length) : zs[k]? = some (zs.getD k []) := by
  rw [List.getElem?_eq_getElem h, List.getD, List.getElem?_eq_getElem h]; rfl
theorem WdsAt.source {w : World} {ao : Option Addr} {len : Nat} {l : List Wd} (h : WdsAt w ao len l) : ∀ ad, ao = some ad → ∀ j v, (wdVals l)[j]? = some v → w.cell? (ad.add j) = some v := by
  intro ad e j v hj
  have hlt : j < (wdVals l).length := (List.getElem?_eq_some_iff.1 hj).1
  rw [wdVals_length, h.length] at hlt
  obtain ⟨b, off, e2, hc⟩ := h.cells (by omega)
  rw [e] at e2
  cases e2
  have hadd : (⟨b, off, none⟩ : Addr).add j = ⟨b, off + j, none⟩ := by unfold Addr.add; split <;> simp_all
  rw [hadd, hc j hlt]
  rw [wdVals, List.getElem?_map, getD_get (by rw [h.length]; exact hlt)] at hj
  simpa using hj
/-- copy of texts into a row of one's own. -/
theorem wpList_copyW {w : World} {ops : Array Oper} {rest : List Oper} {o : Oper} {a : Act} {Q : Exit → Act → World → Prop} (hgd : o.guard = none) (d s : Operand)
    (ho : o.op = .call { callee := .builtin .copy, args := #[d, s], argTypes := #[22, 22] }) (B g n : Nat) (ao : Option Addr) (m sc : Nat) (hd : a.eval d = .slice (some ⟨g, 0, none⟩) n n) (hs : a.eval s = .slice ao m sc)
    (hao : ao = none → m = 0 ∧ sc = 0) (hB : B ≤ g) (hmn : m ≤ n) {xs : List Value} (hown : w.ownsRow B 9 1 (.slice (some ⟨g, 0, none⟩) n n) n xs) {l : List Wd} (hsrc : WdsAt w ao m l)
    (h : ∀ w', w'.ownsRow B 9 1 (.slice (some ⟨g, 0, none⟩) n n) n (wdVals l ++ xs.drop m) → Below B w w' → ∀ v, wpList Try.prog ops Q rest (a.put o.dst v) w') : wpList Try.prog ops Q (o :: rest) a w := by
  refine wpList_plain hgd fun K hK => ?_
  have hl := hsrc.length
  cases ao with
  | some ad =>
    rcases hown.2 with ⟨hv, _⟩ | ⟨g', cap', cur, hv, hb, hg, h1, h2, h3, h4⟩
    · cases hv
    cases hv
    have hcl : (wdVals l).length = m := by rw [wdVals_length, hl]
    have hrun := run_copyG Try.underlying22 size9 w o.type g n n ad m sc cur (wdVals l) hg (by rw [hcl, show Nat.min m n = m from Nat.min_eq_left hmn]; omega) (hsrc.source ad rfl) (by rw [hcl]; omega) (wd_one l)
    have hcur : cur.toList = xs := by rw [← h4]; exact (List.take_of_length_le (by simp; omega)).symm
    unfold Oper.wp
    simp [execOp, ho, resolve, invoke, builtin, hd, hs, hrun, Result.andThen]
    refine hK _ _ (h _ ⟨?_, .inr ⟨g, n, _, rfl, hb, setRow_heap w g cur _ 9 (0, 0) hg, h1, h2, ?_, ?_⟩⟩ (below_setRow (Below.refl _ _) hB _) _)
    · have := hown.1
      simp only [List.length_append, List.length_drop, wdVals_length]; omega
    · simp [wdVals_length, h3]; omega
    · rw [hcur, hcl]
      have := hown.1
      exact List.take_of_length_le (by simp only [List.length_append, List.length_drop, wdVals_length]; omega)
  | none =>
    obtain ⟨rfl, rfl⟩ := hao rfl
    have hcs : l = [] := List.eq_nil_of_length_eq_zero hl
    subst hcs
    have hrun := run_copy_nil (P := Try.prog) w 22 22 o.type 9 ⟨g, 0, none⟩ n n Try.underlying22 (by rw [size9]; rfl)
    unfold Oper.wp
    simp [execOp, ho, resolve, invoke, builtin, hd, hs, hrun, Result.andThen]
    exact hK _ _ (h _ (by simpa [wdVals] using hown) (Below.refl _ _) _)
/-- The document's index. -/
structure RxAt (w : World) (y g : Nat) (k : Int) (refs : List Wd) : Prop where
  box : w.heap[y]? = some (.cells #[.int .i64 k, .slice (some ⟨g, 0, none⟩) refs.length refs.length] 55 (0, 0))
  wds : WdsAt w (some ⟨g, 0, none⟩) refs.length refs
theorem RxAt.lt {w : World} {y g : Nat} {k : Int} {refs : List Wd} (h : RxAt w y g k refs) : y < w.heap.size := lt_block h.box
theorem RxAt.below {w w' : World} {y g : Nat} {k : Int} {refs : List Wd} (h : RxAt w y g k refs) (hb : Below w.heap.size w w') : RxAt w' y g k refs :=
  ⟨by rw [hb.block _ h.lt]; exact h.box, h.wds.below hb⟩
theorem RxAt.c0 {w : World} {y g : Nat} {k : Int} {refs : List Wd} (h : RxAt w y g k refs) : w.cell? ⟨y, 0, none⟩ = some (.int .i64 k) := cell_block h.box 0 _ rfl
theorem RxAt.c1 {w : World} {y g : Nat} {k : Int} {refs : List Wd} (h : RxAt w y g k refs) : w.cell? ⟨y, 1, none⟩ = some (.slice (some ⟨g, 0, none⟩) refs.length refs.length) := cell_block h.box 1 _ rfl
def RNewPost (k : Int) (refs : List Wd) (w : World) (e : Ending) (w' : World) : Prop :=
  Below w.heap.size w w' ∧ ((refB k refs ≠ 0 ∧ e = .returned (.tuple #[.pointer none, .int .i64 (refB k refs)])) ∨
    (refB k refs = 0 ∧ ∃ y g, e = .returned (.tuple #[.pointer (some ⟨y, 0, none⟩), .int .i64 0]) ∧ RxAt w' y g k refs))
theorem rnew_bad {k : Int} {refs : List Wd} {w : World} {E : Int} (h : refB k refs = E) (h0 : E ≠ 0) : RNewPost k refs w (.returned (.tuple #[.pointer none, .int .i64 E])) w :=
  ⟨Below.refl _ _, .inl ⟨by rw [h]; exact h0, by rw [h]⟩⟩
set_option maxRecDepth 10000 in
set_option maxHeartbeats 2000000 in
theorem rnew_calls (k : Int) (refs : List Wd) (ao : Option Addr) (n c : Nat) (w : World) (h : WdsAt w ao n refs) (hb : ∀ s ∈ refs, s.length ≤ maxLen) (hao : ao = none → n = 0 ∧ c = 0) :
    Calls Try.prog 10 #[.int .i64 k, .slice ao n c] w (RNewPost k refs w) := by
  obtain ⟨i0, hi, hz0, hz1, hz2⟩ := info_parts info9
  have hl := h.length
  have HW : Hid (WdsAt w ao n refs) := h
  have HB : Hid (∀ s ∈ refs, s.length ≤ maxLen) := hb
  have HL : Hid (refs.length = n) := hl
  have HI : Hid (Try.prog.info? 9 = some i0 ∧ i0.zero = some (.string ⟨#[]⟩) ∧ i0.size = 1 ∧ i0.bytes = 16) := ⟨hi, hz0, hz1, hz2⟩
  have HAo : Hid (ao = none → n = 0 ∧ c = 0) := hao
  clear h hb hi hz0 hz1 hz2 hao
  by_cases h1 : k < 1
  · have d1 : decide (k < 1) = true := by simpa using h1
    have HE : Hid (refB k refs = 210) := by show _ = _; unfold refB; rw [if_pos (.inl h1)]
    go_enter Try.func10, Try.ntmps10
    go_wp2
    go_ret2
    exact rnew_bad HE.out (by decide)
  by_cases h2 : 16 < k
  · have d1 : decide (k < 1) = false := by simp; omega
    have d2 : decide (16 < k) = true := by simpa using h2
    have HE : Hid (refB k refs = 210) := by show _ = _; unfold refB; rw [if_pos (.inr h2)]
    go_enter Try.func10, Try.ntmps10
    go_wp2
    go_ret2
    exact rnew_bad HE.out (by decide)
  have d1 : decide (k < 1) = false := by simp; omega
  have d2 : decide (16 < k) = false := by simp; omega
  have HK : Hid (¬ (k < 1 ∨ 16 < k)) := by show ¬ _; omega
  by_cases h3 : 64 < n
  · have d3 : decide ((64 : Int) < (n : Int)) = true := decide_eq_true (by omega)
    have HE : Hid (refB k refs = 2) := by show _ = _; unfold refB; rw [if_neg HK.out, if_pos (by omega)]
    go_enter Try.func10, Try.ntmps10
    go_wp2
    go_ret2
    exact rnew_bad HE.out (by decide)
  have d3 : decide ((64 : Int) < (n : Int)) = false := by simp; omega
  have HN : Hid (n ≤ 64) := by show _ ≤ _; omega
  clear h1 h2 h3 hl
  go_enter Try.func10, Try.ntmps10
  go_wp2
  go_loopg [6, 7] n (fun g a i wr => ∃ j : Nat, j + g = n ∧ a = .int .i64 (total (refs.take j) : Nat) ∧ i = .int .i64 j ∧ wr = w ∧ ∀ m, m < j → (refs.getD m []).length ≤ 65536)
  case atStart => exact ⟨0, Nat.zero_add _, rfl, rfl, rfl, fun m hm => by omega⟩
  case round =>
    obtain ⟨j, hj, rfl, rfl, rfl, hall⟩ := hrel
    have HA : Hid (∀ m, m < j → (refs.getD m []).length ≤ 65536) := hall
    have hbd := total_bd refs j (by have := HL.out; omega) hall
    have hN := HN.out
    clear hall
    by_cases hlt : j < n
    · have hdlt : decide ((j : Int) < (n : Int)) = true := decide_eq_true (by omega)
      obtain ⟨b, off, rfl, hcs⟩ := HW.out.cells (by omega)
      have hc1 := hcs j hlt
      clear hcs
      have HT : Hid (total (refs.take (j + 1)) = total (refs.take j) + (refs.getD j []).length) := total_take refs j (by have := HL.out; omega)
      have HZ : Hid (refs.getD j [] ∈ refs) := by show _ ∈ _; rw [List.getD, List.getElem?_eq_getElem (by have := HL.out; omega)]; exact List.getElem_mem _
      have HG : Hid (65536 < (refs.getD j []).length → refB k refs = 2) := by
        intro hg
        unfold refB; rw [if_neg HK.out, if_neg (by have := HL.out; omega), if_pos (.inl (any_too (by have := HL.out; omega) hg))]
      have HS : Hid ((refs.getD j []).length ≤ 65536 → ∀ m, m < j + 1 → (refs.getD m []).length ≤ 65536) := by
        intro hg m hm
        by_cases e : m = j
        · subst e; exact hg
        · exact HA.out m (by omega)
      have HM : Hid ((refs.getD j []).length ≤ maxLen) := HB.out _ HZ.out
      clear HZ
      generalize refs.getD j [] = s at *
      have hz : (bs s).size = s.length := bs_size _
      by_cases hg : 65536 < s.length
      · have HE : Hid (refB k refs = 2) := HG.out hg
        have hdg : decide ((65536 : Int) < ((bs s).size : Int)) = true := decide_eq_true (by omega)
        go_wp2
        try rw [Exit.noGoto_ret]
        go_ret2
        exact rnew_bad HE.out (by decide)
      · have hdg : decide ((65536 : Int) < ((bs s).size : Int)) = false := decide_eq_false (by omega)
        go_wp2
        go_roundg (gk - 1)
        case rel => exact ⟨j + 1, by omega, by rw [HT.out]; go_num, by go_num, rfl, HS.out (by omega)⟩
        case measure => omega
    · have hdlt : decide ((j : Int) < (n : Int)) = false := decide_eq_false (by omega)
      have HJ : Hid (refs.take j = refs) := by show _ = _; exact List.take_of_length_le (by have := HL.out; omega)
      rw [HJ.out]
      rw [HJ.out] at hbd
      have HE : Hid (refB k refs = if 1048576 < total refs then 2 else 0) := by
        show _ = _
        unfold refB
        rw [if_neg HK.out, if_neg (by have := HL.out; omega), any_not (fun m hm => HA.out m (by have := HL.out; omega))]
        simp
      by_cases hg : 1048576 < total refs
      · have hdg : decide ((1048576 : Int) < (total refs : Int)) = true := decide_eq_true (by omega)
        go_wp2
        try rw [Exit.noGoto_ret]
        go_ret2
        exact rnew_bad (HE.out.trans (if_pos hg)) (by decide)
      · have hdg : decide ((1048576 : Int) < (total refs : Int)) = false := decide_eq_false (by omega)
        go_wp2_with (first
          | (at_make; refine wpList_make_full _ rfl _ _ 22 rfl wr.heap.size 9 i0 (.string ⟨#[]⟩) 1 Try.underlying22 HI.out.1 HI.out.2.1 HI.out.2.2.1 .i64 .i64 _ _ n rfl rfl rfl rfl (by rw [HI.out.2.2.2]; omega) (by unfold maxLen; omega) (Nat.le_refl _) ?_; intro w1 hrow1 hg1)
          | (refine wpList_copyW rfl (.tmp 42) (.tmp 43) rfl wr.heap.size wr.heap.size n ao n c rfl rfl HAo.out (Nat.le_refl _) (Nat.le_refl _) hrow1 (HW.out.below ((Below.refl _ _).grown hg1 (Nat.le_refl _) (fun j hj => by cases hj))) ?_; intro w2 hrow2 hb2 v2)
          | go_in)
        go_ret2
        have hrow3 := owned_below hrow2 (below_new (.cells #[.int .i64 k, .slice (some ⟨wr.heap.size, 0, none⟩) n n] 55))
        refine ⟨(((Below.refl _ _).grown hg1 (Nat.le_refl _) (fun j hj => by cases hj)).trans hb2).alloc (Nat.le_trans hg1.size hb2.size) _, .inr ⟨HE.out.trans (if_neg hg), _, wr.heap.size, rfl, ?_, ?_⟩⟩
        · rw [HL.out]; exact heap_alloc_new _ _
        · rw [HL.out]
          have hlen := hrow1.1
          rw [List.drop_of_length_le (by rw [hlen]; omega), List.append_nil] at hrow3
          exact wds_owned hrow3

end Go.Proofs.Ytnidinppglkcpaa
