/-
  Lists of texts and of places that are alike.
-/
import Derived.Test.YtnidinppglkcpaaKmL
namespace Go.Proofs.Ytnidinppglkcpaa
open Go.RowKit Go.Maps

theorem get_len {α : Type} {l : List α} {j : Nat} (h : j < l.length) : ∃ x, l[j]? = some x := ⟨l[j], List.getElem?_eq_getElem h⟩
theorem ext_upto {α : Type} {a b : List α} (hl : a.length = b.length) (h : ∀ m, m < a.length → a[m]? = b[m]?) : a = b := by
  apply List.ext_getElem? fun m => ?_
  by_cases hm : m < a.length
  · exact h m hm
  · rw [List.getElem?_eq_none (by omega), List.getElem?_eq_none (by omega)]
theorem neq46 (p1 p2 q1 q2 : Int) (W : World) : (binOp .neq 46 (.agg #[.int .i64 p1, .int .i64 p2]) (.agg #[.int .i64 q1, .int .i64 q2])).run Try.prog W = .ok (.bool (decide ((p1, p2) ≠ (q1, q2)))) W := by
  by_cases h1 : p1 = q1
  · by_cases h2 : p2 = q2
    · subst h1 h2
      go_simp
    · have e : (p2 == q2) = false := by simpa using h2
      subst h1
      go_simp
  · have e : (p1 == q1) = false := by simpa using h1
    go_simp
set_option maxHeartbeats 1000000 in
theorem places_calls (a b : List Pl) (aa ba : Option Addr) (an ac bn bc : Nat) (w : World) (ha : PlsAt w aa an a) (hb : PlsAt w ba bn b) :
    Calls Try.prog 19 #[.slice aa an ac, .slice ba bn bc] w fun e w' => e = .returned (.bool (decide (a = b))) ∧ Below w.heap.size w w' := by
  have HA : Hid (PlsAt w aa an a) := ha
  have HB : Hid (PlsAt w ba bn b) := hb
  have hm := ha.short
  have hm2 := hb.short
  unfold maxLen at hm hm2
  clear ha hb
  by_cases hl : an = bn
  · subst hl
    have HL : Hid (a.length = an ∧ b.length = an) := ⟨HA.out.length, HB.out.length⟩
    go_enter Try.func19, Try.ntmps19
    go_wp2
    go_loopg [5] an (fun g i wr => ∃ j : Nat, j + g = an ∧ i = .int .i64 j ∧ (∀ m, m < j → a[m]? = b[m]?) ∧ Below w.heap.size w wr)
    case atStart => exact ⟨0, Nat.zero_add _, rfl, fun m hm => by omega, Below.refl _ _⟩
    case round =>
      obtain ⟨j, hj, rfl, hall, hbx⟩ := hrel
      have HS : Hid ((∀ m, m < j → a[m]? = b[m]?) ∧ Below w.heap.size w wr) := ⟨hall, hbx⟩
      clear hall hbx
      by_cases hlt : j < an
      · have hdlt : decide ((j : Int) < (an : Int)) = true := decide_eq_true (by omega)
        obtain ⟨b1, o1, rfl, hc1⟩ := (HA.out.below HS.out.2).cells (by omega)
        obtain ⟨b2, o2, rfl, hc2⟩ := (HB.out.below HS.out.2).cells (by omega)
        obtain ⟨p, hp⟩ := get_len (l := a) (j := j) (by have := HL.out.1; omega)
        obtain ⟨q, hq⟩ := get_len (l := b) (j := j) (by have := HL.out.2; omega)
        have HG : Hid (a[j]? = some p ∧ b[j]? = some q) := ⟨hp, hq⟩
        obtain ⟨x1, x2⟩ := hc1 j p hp
        obtain ⟨y1, y2⟩ := hc2 j q hq
        clear hc1 hc2 hp hq
        by_cases e : p = q
        · subst e
          have hne : ∀ W : World, (binOp .neq 46 (.agg #[.int .i64 p.1, .int .i64 p.2]) (.agg #[.int .i64 p.1, .int .i64 p.2])).run Try.prog W = .ok (.bool false) W := fun W => (neq46 p.1 p.2 p.1 p.2 W).trans (by simp)
          go_wp2
          go_region
          go_wp2
          go_roundg (gk - 1)
          case rel =>
            refine ⟨j + 1, by omega, by go_num, fun m hm => ?_, HS.out.2.drew⟩
            by_cases e : m = j
            · subst e; rw [HG.out.1, HG.out.2]
            · exact HS.out.1 m (by omega)
          case measure => omega
        · have HN : Hid (decide (a = b) = false) := by
            show _ = _
            refine decide_eq_false fun h => e ?_
            have h1 := HG.out.1
            rw [h, HG.out.2] at h1
            exact (Option.some.inj h1).symm
          have hne : ∀ W : World, (binOp .neq 46 (.agg #[.int .i64 p.1, .int .i64 p.2]) (.agg #[.int .i64 q.1, .int .i64 q.2])).run Try.prog W = .ok (.bool true) W := fun W => (neq46 p.1 p.2 q.1 q.2 W).trans (by rw [decide_eq_true (by intro h; exact e (Prod.ext (by simpa using congrArg Prod.fst h) (by simpa using congrArg Prod.snd h)))])
          clear e
          go_wp2
          go_region
          go_wp2
          try rw [Exit.noGoto_ret]
          go_ret
          exact ⟨ret_bool HN.out.symm, HS.out.2.drew⟩
      · have hdlt : decide ((j : Int) < (an : Int)) = false := decide_eq_false (by omega)
        have HN : Hid (decide (a = b) = true) := decide_eq_true (ext_upto (by have := HL.out; omega) (fun m hm => HS.out.1 m (by have := HL.out; omega)))
        go_wp2
        try rw [Exit.noGoto_ret]
        go_ret
        exact ⟨ret_bool HN.out.symm, HS.out.2⟩
  · have hd : ((an : Int) != (bn : Int)) = true := by simp; omega
    have HN : Hid (decide (a = b) = false) := decide_eq_false fun h => hl (by rw [← HA.out.length, ← HB.out.length, h])
    go_enter Try.func19, Try.ntmps19
    go_wp2
    go_ret
    exact ⟨ret_bool HN.out.symm, Below.refl _ _⟩
set_option maxHeartbeats 1000000 in
theorem texts_calls (a b : List Wd) (aa ba : Option Addr) (an ac bn bc : Nat) (w : World) (ha : WdsAt w aa an a) (hb : WdsAt w ba bn b) :
    Calls Try.prog 11 #[.slice aa an ac, .slice ba bn bc] w fun e w' => e = .returned (.bool (decide (a = b))) ∧ Below w.heap.size w w' := by
  have HA : Hid (WdsAt w aa an a) := ha
  have HB : Hid (WdsAt w ba bn b) := hb
  have hm := ha.short
  have hm2 := hb.short
  unfold maxLen at hm hm2
  clear ha hb
  by_cases hl : an = bn
  · subst hl
    have HL : Hid (a.length = an ∧ b.length = an) := ⟨HA.out.length, HB.out.length⟩
    go_enter Try.func11, Try.ntmps11
    go_wp2
    go_loopg [5] an (fun g i wr => ∃ j : Nat, j + g = an ∧ i = .int .i64 j ∧ (∀ m, m < j → a[m]? = b[m]?) ∧ Below w.heap.size w wr)
    case atStart => exact ⟨0, Nat.zero_add _, rfl, fun m hm => by omega, Below.refl _ _⟩
    case round =>
      obtain ⟨j, hj, rfl, hall, hbx⟩ := hrel
      have HS : Hid ((∀ m, m < j → a[m]? = b[m]?) ∧ Below w.heap.size w wr) := ⟨hall, hbx⟩
      clear hall hbx
      by_cases hlt : j < an
      · have hdlt : decide ((j : Int) < (an : Int)) = true := decide_eq_true (by omega)
        obtain ⟨b1, o1, rfl, hc1⟩ := (HA.out.below HS.out.2).cells (by omega)
        obtain ⟨b2, o2, rfl, hc2⟩ := (HB.out.below HS.out.2).cells (by omega)
        obtain ⟨p, hp⟩ := get_len (l := a) (j := j) (by have := HL.out.1; omega)
        obtain ⟨q, hq⟩ := get_len (l := b) (j := j) (by have := HL.out.2; omega)
        have HG : Hid (a[j]? = some p ∧ b[j]? = some q) := ⟨hp, hq⟩
        have x1 : wr.cell? ⟨b1, o1 + j, none⟩ = some (.string (bs p)) := by have := hc1 j hlt; rw [List.getD, hp] at this; exact this
        have y1 : wr.cell? ⟨b2, o2 + j, none⟩ = some (.string (bs q)) := by have := hc2 j hlt; rw [List.getD, hq] at this; exact this
        clear hc1 hc2 hp hq
        by_cases e : p = q
        · subst e
          have hne : ((bs p).toList == (bs p).toList) = true := by simp
          go_wp2
          go_region
          go_wp2
          go_roundg (gk - 1)
          case rel =>
            refine ⟨j + 1, by omega, by go_num, fun m hm => ?_, HS.out.2.drew⟩
            by_cases e : m = j
            · subst e; rw [HG.out.1, HG.out.2]
            · exact HS.out.1 m (by omega)
          case measure => omega
        · have HN : Hid (decide (a = b) = false) := by
            show _ = _
            refine decide_eq_false fun h => e ?_
            have h1 := HG.out.1
            rw [h, HG.out.2] at h1
            exact (Option.some.inj h1).symm
          have hne : ((bs p).toList == (bs q).toList) = false := by rw [bs_toList, bs_toList]; simpa using e
          clear e
          go_wp2
          go_region
          go_wp2
          try rw [Exit.noGoto_ret]
          go_ret
          exact ⟨ret_bool HN.out.symm, HS.out.2.drew⟩
      · have hdlt : decide ((j : Int) < (an : Int)) = false := decide_eq_false (by omega)
        have HN : Hid (decide (a = b) = true) := decide_eq_true (ext_upto (by have := HL.out; omega) (fun m hm => HS.out.1 m (by have := HL.out; omega)))
        go_wp2
        try rw [Exit.noGoto_ret]
        go_ret
        exact ⟨ret_bool HN.out.symm, HS.out.2⟩
  · have hd : ((an : Int) != (bn : Int)) = true := by simp; omega
    have HN : Hid (decide (a = b) = false) := decide_eq_false fun h => hl (by rw [← HA.out.length, ← HB.out.length, h])
    go_enter Try.func11, Try.ntmps11
    go_wp2
    go_ret
    exact ⟨ret_bool HN.out.symm, Below.refl _ _⟩
end Go.Proofs.Ytnidinppglkcpaa
