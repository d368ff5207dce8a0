/-
  The document's New: its list is new; an index stays where a list of texts is written over.
-/
import Derived.Test.YtnidinppglkcpaaKfC
namespace Go.Proofs.Ytnidinppglkcpaa
open Go.RowKit Go.Maps

def RNewPost2 (k : Int) (refs : List Wd) (w : World) (e : Ending) (w' : World) : Prop :=
  Below w.heap.size w w' ∧ ((refB k refs ≠ 0 ∧ e = .returned (.tuple #[.pointer none, .int .i64 (refB k refs)])) ∨
    (refB k refs = 0 ∧ ∃ y g, w.heap.size ≤ g ∧ e = .returned (.tuple #[.pointer (some ⟨y, 0, none⟩), .int .i64 0]) ∧ RxAt w' y g k refs))
theorem rnew_bad2 {k : Int} {refs : List Wd} {w : World} {E : Int} (h : refB k refs = E) (h0 : E ≠ 0) : RNewPost2 k refs w (.returned (.tuple #[.pointer none, .int .i64 E])) w :=
  ⟨Below.refl _ _, .inl ⟨by rw [h]; exact h0, by rw [h]⟩⟩
set_option maxRecDepth 10000 in
set_option maxHeartbeats 2000000 in
theorem rnew_calls2 (k : Int) (refs : List Wd) (ao : Option Addr) (n c : Nat) (w : World) (h : WdsAt w ao n refs) (hb : ∀ s ∈ refs, s.length ≤ maxLen) (hao : ao = none → n = 0 ∧ c = 0) :
    Calls Try.prog 10 #[.int .i64 k, .slice ao n c] w (RNewPost2 k refs w) := by
  obtain ⟨i0, hi, hz0, hz1, hz2⟩ := info_parts info9
  have hl := h.length
  have HW : Hid (WdsAt w ao n refs) := h
  have HB : Hid (∀ s ∈ refs, s.length ≤ maxLen) := hb
  have HL : Hid (refs.length = n) := hl
  have HI : Hid (Try.prog.info? 9 = some i0 ∧ i0.zero = some (.string ⟨#[]⟩) ∧ i0.size = 1 ∧ i0.bytes = 16) := ⟨hi, hz0, hz1, hz2⟩
  have HAo : Hid (ao = none → n = 0 ∧ c = 0) := hao
  clear h hb hi hz0 hz1 hz2 hao
  by_cases h1 : k < 1
  · have d1 : decide (k < 1) = true := by simpa using h1
    have HE : Hid (refB k refs = 210) := by show _ = _; unfold refB; rw [if_pos (.inl h1)]
    go_enter Try.func10, Try.ntmps10
    go_wp2
    go_ret2
    exact rnew_bad2 HE.out (by decide)
  by_cases h2 : 16 < k
  · have d1 : decide (k < 1) = false := by simp; omega
    have d2 : decide (16 < k) = true := by simpa using h2
    have HE : Hid (refB k refs = 210) := by show _ = _; unfold refB; rw [if_pos (.inr h2)]
    go_enter Try.func10, Try.ntmps10
    go_wp2
    go_ret2
    exact rnew_bad2 HE.out (by decide)
  have d1 : decide (k < 1) = false := by simp; omega
  have d2 : decide (16 < k) = false := by simp; omega
  have HK : Hid (¬ (k < 1 ∨ 16 < k)) := by show ¬ _; omega
  by_cases h3 : 64 < n
  · have d3 : decide ((64 : Int) < (n : Int)) = true := decide_eq_true (by omega)
    have HE : Hid (refB k refs = 2) := by show _ = _; unfold refB; rw [if_neg HK.out, if_pos (by omega)]
    go_enter Try.func10, Try.ntmps10
    go_wp2
    go_ret2
    exact rnew_bad2 HE.out (by decide)
  have d3 : decide ((64 : Int) < (n : Int)) = false := by simp; omega
  have HN : Hid (n ≤ 64) := by show _ ≤ _; omega
  clear h1 h2 h3 hl
  go_enter Try.func10, Try.ntmps10
  go_wp2
  go_loopg [6, 7] n (fun g a i wr => ∃ j : Nat, j + g = n ∧ a = .int .i64 (total (refs.take j) : Nat) ∧ i = .int .i64 j ∧ wr = w ∧ ∀ m, m < j → (refs.getD m []).length ≤ 65536)
  case atStart => exact ⟨0, Nat.zero_add _, rfl, rfl, rfl, fun m hm => by omega⟩
  case round =>
    obtain ⟨j, hj, rfl, rfl, rfl, hall⟩ := hrel
    have HA : Hid (∀ m, m < j → (refs.getD m []).length ≤ 65536) := hall
    have hbd := total_bd refs j (by have := HL.out; omega) hall
    have hN := HN.out
    clear hall
    by_cases hlt : j < n
    · have hdlt : decide ((j : Int) < (n : Int)) = true := decide_eq_true (by omega)
      obtain ⟨b, off, rfl, hcs⟩ := HW.out.cells (by omega)
      have hc1 := hcs j hlt
      clear hcs
      have HT : Hid (total (refs.take (j + 1)) = total (refs.take j) + (refs.getD j []).length) := total_take refs j (by have := HL.out; omega)
      have HZ : Hid (refs.getD j [] ∈ refs) := by show _ ∈ _; rw [List.getD, List.getElem?_eq_getElem (by have := HL.out; omega)]; exact List.getElem_mem _
      have HG : Hid (65536 < (refs.getD j []).length → refB k refs = 2) := by
        intro hg
        unfold refB; rw [if_neg HK.out, if_neg (by have := HL.out; omega), if_pos (.inl (any_too (by have := HL.out; omega) hg))]
      have HS : Hid ((refs.getD j []).length ≤ 65536 → ∀ m, m < j + 1 → (refs.getD m []).length ≤ 65536) := by
        intro hg m hm
        by_cases e : m = j
        · subst e; exact hg
        · exact HA.out m (by omega)
      have HM : Hid ((refs.getD j []).length ≤ maxLen) := HB.out _ HZ.out
      clear HZ
      generalize refs.getD j [] = s at *
      have hz : (bs s).size = s.length := bs_size _
      by_cases hg : 65536 < s.length
      · have HE : Hid (refB k refs = 2) := HG.out hg
        have hdg : decide ((65536 : Int) < ((bs s).size : Int)) = true := decide_eq_true (by omega)
        go_wp2
        try rw [Exit.noGoto_ret]
        go_ret2
        exact rnew_bad2 HE.out (by decide)
      · have hdg : decide ((65536 : Int) < ((bs s).size : Int)) = false := decide_eq_false (by omega)
        go_wp2
        go_roundg (gk - 1)
        case rel => exact ⟨j + 1, by omega, by rw [HT.out]; go_num, by go_num, rfl, HS.out (by omega)⟩
        case measure => omega
    · have hdlt : decide ((j : Int) < (n : Int)) = false := decide_eq_false (by omega)
      have HJ : Hid (refs.take j = refs) := by show _ = _; exact List.take_of_length_le (by have := HL.out; omega)
      rw [HJ.out]
      rw [HJ.out] at hbd
      have HE : Hid (refB k refs = if 1048576 < total refs then 2 else 0) := by
        show _ = _
        unfold refB
        rw [if_neg HK.out, if_neg (by have := HL.out; omega), any_not (fun m hm => HA.out m (by have := HL.out; omega))]
        simp
      by_cases hg : 1048576 < total refs
      · have hdg : decide ((1048576 : Int) < (total refs : Int)) = true := decide_eq_true (by omega)
        go_wp2
        try rw [Exit.noGoto_ret]
        go_ret2
        exact rnew_bad2 (HE.out.trans (if_pos hg)) (by decide)
      · have hdg : decide ((1048576 : Int) < (total refs : Int)) = false := decide_eq_false (by omega)
        go_wp2_with (first
          | (at_make; refine wpList_make_full _ rfl _ _ 22 rfl wr.heap.size 9 i0 (.string ⟨#[]⟩) 1 Try.underlying22 HI.out.1 HI.out.2.1 HI.out.2.2.1 .i64 .i64 _ _ n rfl rfl rfl rfl (by rw [HI.out.2.2.2]; omega) (by unfold maxLen; omega) (Nat.le_refl _) ?_; intro w1 hrow1 hg1)
          | (refine wpList_copyW rfl (.tmp 42) (.tmp 43) rfl wr.heap.size wr.heap.size n ao n c rfl rfl HAo.out (Nat.le_refl _) (Nat.le_refl _) hrow1 (HW.out.below ((Below.refl _ _).grown hg1 (Nat.le_refl _) (fun j hj => by cases hj))) ?_; intro w2 hrow2 hb2 v2)
          | go_in)
        go_ret2
        have hrow3 := owned_below hrow2 (below_new (.cells #[.int .i64 k, .slice (some ⟨wr.heap.size, 0, none⟩) n n] 55))
        refine ⟨(((Below.refl _ _).grown hg1 (Nat.le_refl _) (fun j hj => by cases hj)).trans hb2).alloc (Nat.le_trans hg1.size hb2.size) _, .inr ⟨HE.out.trans (if_neg hg), _, wr.heap.size, Nat.le_refl _, rfl, ?_, ?_⟩⟩
        · rw [HL.out]; exact heap_alloc_new _ _
        · rw [HL.out]
          have hlen := hrow1.1
          rw [List.drop_of_length_le (by rw [hlen]; omega), List.append_nil] at hrow3
          exact wds_owned hrow3
theorem rnew_ok2 {k : Int} {refs : List Wd} {w w' : World} {e : Ending} (h : RNewPost2 k refs w e w') (h0 : refB k refs = 0) : ∃ y g, w.heap.size ≤ g ∧ e = .returned (.tuple #[.pointer (some ⟨y, 0, none⟩), .int .i64 0]) ∧ RxAt w' y g k refs ∧ Below w.heap.size w w' := by
  rcases h.2 with ⟨h1, _⟩ | ⟨_, y, g, hg, he, hx⟩
  · exact absurd h0 h1
  · exact ⟨y, g, hg, he, hx, h.1⟩
theorem rnew_no2 {k : Int} {refs : List Wd} {w w' : World} {e : Ending} {E : Int} (h : RNewPost2 k refs w e w') (h0 : refB k refs = E) (hE : E ≠ 0) : e = .returned (.tuple #[.pointer none, .int .i64 E]) ∧ Below w.heap.size w w' := by
  rcases h.2 with ⟨_, he⟩ | ⟨h1, _⟩
  · exact ⟨by rw [he, h0], h.1⟩
  · exact absurd (h0.symm.trans h1) hE
theorem IxAt.setOther {w : World} {base x mb : Nat} {k : Int} {L : List Oc} {f : Wd → Value} (h : IxAt w base x mb k L f) {g : Nat} {cs : Array Value} {fr : Nat × Nat} (hg : w.heap[g]? = some (.cells cs 9 fr)) (i : Nat) (u : Value) : IxAt (w.setCell ⟨g, i, none⟩ u) base x mb k L f := by
  have hne : ∀ b o, w.heap[b]? = some o → (∀ c fr', o ≠ Obj.cells c 9 fr') → (w.setCell ⟨g, i, none⟩ u).heap[b]? = w.heap[b]? := fun b o hb ho => Below.heap_setCell _ _ _ _ (fun e => by
    have e' : b = g := e
    subst e'
    rw [hg] at hb
    cases hb
    exact ho _ _ rfl)
  obtain ⟨es, clock, hm⟩ := h.mp.isMap
  exact ⟨(hne x _ h.box (by intro c fr' e; cases e)).trans h.box, h.mp.keep (hne mb _ hm (by intro c fr' e; cases e)) fun b cur hb _ => hne b _ hb (by intro c fr' e; cases e)⟩
theorem RxAt.setOther {w : World} {y gy : Nat} {k : Int} {refs : List Wd} (h : RxAt w y gy k refs) {g : Nat} {cs : Array Value} {fr : Nat × Nat} (hg : w.heap[g]? = some (.cells cs 9 fr)) (hne : gy ≠ g) (i : Nat) (u : Value) : RxAt (w.setCell ⟨g, i, none⟩ u) y gy k refs := by
  have hy : y ≠ g := fun e => by subst e; have := h.box; rw [hg] at this; cases this
  refine ⟨(Below.heap_setCell _ _ _ _ hy).trans h.box, h.wds.length, h.wds.short, fun h0 => ?_⟩
  obtain ⟨b, off, e, hc⟩ := h.wds.cells h0
  refine ⟨b, off, e, fun j hj => ?_⟩
  have := hc j hj
  cases e
  rw [← this]
  have hb : (w.setCell ⟨g, i, none⟩ u).heap[gy]? = w.heap[gy]? := Below.heap_setCell _ _ _ _ hne
  simp only [World.cell?, hb]
theorem own_heap {w : World} {base g n cap : Nat} {e : TypeId} {size : Nat} {xs : List Value} (h : w.ownsRow base e size (.slice (some ⟨g, 0, none⟩) n cap) n xs) : ∃ cs, w.heap[g]? = some (.cells cs e (0, 0)) := by
  rcases h.2 with ⟨hv, _⟩ | ⟨g', cap', cur, hv, _, hg, _⟩
  · cases hv
  · cases hv; exact ⟨cur, hg⟩
theorem own_pre {w : World} {base g n m cap : Nat} {l : List Wd} {ys : List Value} (h : w.ownsRow base 9 1 (.slice (some ⟨g, 0, none⟩) m cap) m (wdVals l ++ ys)) (hl : l.length = n) (hm : m ≤ maxLen) : WdsAt w (some ⟨g, 0, none⟩) n l := by
  have hlen := h.1
  simp only [List.length_append, wdVals_length] at hlen
  refine ⟨hl, by omega, fun _ => ⟨g, 0, rfl, fun i hi => ?_⟩⟩
  rw [Nat.zero_add]
  refine (owned_cells h i _ ?_).1
  rw [List.getElem?_append_left (by rw [wdVals_length]; omega)]
  exact wdVals_get (getD_get (by omega))

end Go.Proofs.Ytnidinppglkcpaa
