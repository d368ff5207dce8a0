/-
  The document's reader: its numbers.
-/
import Derived.Test.YtignpgoicoojiaaDoorRfA
namespace Go.Proofs.YtignpgoicoojiaaDoor
open Go.RowKit
/-- How many the document's reader takes. -/
def cntR (z : Int) (most : Nat) : Nat := if z ≤ most then z.toNat else 0
theorem cntR_le (z : Int) (most : Nat) : cntR z most ≤ most := by unfold cntR; split <;> omega
theorem cntR_of {n most : Nat} (h : n ≤ most) : cntR (n : Int) most = n := by unfold cntR; rw [if_pos (by omega)]; omega
theorem own_rf {w w' : World} {B size n b : Nat} {e : TypeId} {v : Value} {xs : List Value} {s : ByteArray} {i : Nat} (h : w.ownsRow B e size v n xs) (he : e ≠ 59) (hr : Rf w b s i) (hg : w.grownBy w' (some b)) : w'.ownsRow B e size v n xs :=
  owned_of_block h fun g cur _ hc => hg.block g (lt_block hc) (fun e' => by cases e'; rw [hr.box] at hc; cases hc; exact he rfl)
theorem rf_own {w w' : World} {B size n b : Nat} {e : TypeId} {v : Value} {xs : List Value} {s : ByteArray} {i : Nat} (hr : Rf w b s i) (h : w.ownsRow B e size v n xs) (he : e ≠ 59) (hg : w.grownBy w' v.ownBlock) : Rf w' b s i :=
  hr.other hg (by
    rcases h.2 with ⟨hv, _⟩ | ⟨g', cap', cur, hv, hb, hc, _⟩
    · subst hv; simp [Value.ownBlock]
    · subst hv
      intro e'
      simp only [Value.ownBlock] at e'
      cases e'
      rw [hr.box] at hc; cases hc; exact he rfl)
theorem grown_own {w w1 w2 : World} {B size n b : Nat} {e : TypeId} {v : Value} {xs : List Value} (h : w.grownBy w1 (some b)) (ho : w1.ownsRow B e size v n xs) (hB : w.heap.size ≤ B) (k : w1.grownBy w2 v.ownBlock) : w.grownBy w2 (some b) :=
  ⟨k.os.trans h.os, k.tape.trans h.tape, k.output.trans h.output, Nat.le_trans h.size k.size, fun i hi hr => (k.block i (Nat.lt_of_lt_of_le hi h.size) (by
    rcases ho.2 with ⟨hv, _⟩ | ⟨g', cap', cur, hv, hb, hc, _⟩
    · subst hv; simp [Value.ownBlock]
    · subst hv
      intro e'
      simp only [Value.ownBlock] at e'
      cases e'; omega)).trans (h.block i hi hr)⟩
theorem grown_alloc' {w w1 : World} {r : Option Nat} (h : w.grownBy w1 r) (o : Obj) : w.grownBy (w1.alloc o) r := grown_also h (grown_below (Below.alloc (Below.refl _ _) (Nat.le_refl _) o))
theorem one_int (z : Int) : ∀ u ∈ [Value.int .i64 z], u.oneCell' = true := by
  intro u hu; simp at hu; subst hu; rfl
set_option maxRecDepth 10000 in
set_option maxHeartbeats 4000000 in
theorem refNums_calls (b : Nat) (s : ByteArray) (i0 : Nat) (z : Int) (most : Nat) (w : World) (h : Rf w b s i0) (hm : most ≤ 1048576) (hi0 : i0 ≤ 1099500000000) (hzb : -4611686018427387904 ≤ z ∧ z ≤ 4611686018427387904) :
    Calls Tryd.prog 36 #[.pointer (some ⟨b, 0, none⟩), .int .i64 z, .int .i64 (most : Int)] w fun e w' => ∃ v, e = .returned v ∧ w'.ownsRow w.heap.size 3 1 v (cntR z most) (intVals (rnums s.data.toList (cntR z most) i0).1) ∧ Rf w' b s (rnums s.data.toList (cntR z most) i0).2 ∧ w.grownBy w' (some b) := by
  obtain ⟨n, hn⟩ : ∃ n, cntR z most = n := ⟨_, rfl⟩
  have hnm : n ≤ most := hn ▸ cntR_le z most
  have hn0 : (z ≤ (most : Int) ∧ ((0 ≤ z ∧ z = (n : Int)) ∨ (z < 0 ∧ n = 0))) ∨ ((most : Int) < z ∧ n = 0) := by
    unfold cntR at hn; split at hn <;> omega
  obtain ⟨i1, hi, hz0, hz1, hz2⟩ := info_parts info3
  have HR : Hid (Rf w b s i0) := h
  rw [hn]
  clear h hn
  obtain ⟨g, hg⟩ : ∃ g, g = w.heap.size := ⟨_, rfl⟩
  rw [← hg]
  have HGs : Hid (w.heap.size = g) := hg.symm
  clear hg
  go_enter Tryd.func36, Tryd.ntmps36
  go_wp2
  go_loopw [7, 8, 9] (fun v k _ wq => ∃ j : Nat, j ≤ n ∧ k = .int .i64 j ∧ wq.ownsRow g 3 1 v j (intVals (rnums s.data.toList j i0).1) ∧ Rf wq b s (rnums s.data.toList j i0).2 ∧ w.grownBy wq (some b)) (fun _ k _ _ => n - (intOf k).toNat)
  case atStart => exact ⟨0, by omega, rfl, ⟨rfl, .inl ⟨rfl, rfl⟩⟩, HR.out, grown_refl _ _⟩
  case round =>
    obtain ⟨j, hj, rfl, hown, hrf, hgr⟩ := hrel
    obtain ⟨ak, cak, rfl⟩ := owned_shape hown
    by_cases hlt : j < n
    · have hzn : z = (n : Int) := by omega
      subst hzn
      have hl := rnums_le s.data.toList j i0
      have HC : Hid (Calls Tryd.prog 37 #[.pointer (some ⟨b, 0, none⟩)] wr fun e w' => e = .returned (.int .i64 (rnum s.data.toList (rnums s.data.toList j i0).2).1) ∧ Rf w' b s (rnum s.data.toList (rnums s.data.toList j i0).2).2 ∧ wr.grownBy w' (some b)) := refNum_calls b s _ wr hrf (by omega)
      have HN : Hid (rnums s.data.toList (j + 1) i0 = ((rnums s.data.toList j i0).1 ++ [(rnum s.data.toList (rnums s.data.toList j i0).2).1], (rnum s.data.toList (rnums s.data.toList j i0).2).2)) := rnums_succ _ _ _
      have HS : Hid (wr.ownsRow g 3 1 (.slice ak j cak) j (intVals (rnums s.data.toList j i0).1) ∧ Rf wr b s (rnums s.data.toList j i0).2 ∧ w.grownBy wr (some b)) := ⟨hown, hrf, hgr⟩
      clear hown hrf hgr hl HR
      generalize (rnums s.data.toList j i0).1 = l at HN HS HC
      generalize (rnums s.data.toList j i0).2 = sk at HN HS HC
      generalize rnum s.data.toList sk = r at HN HC
      obtain ⟨y, sn⟩ := r
      simp only at HC HN
      go_wp2_with fail
      refine HC.out.mono ?_
      rintro e w1 ⟨rfl, hr1, hg1⟩
      have ho1 := own_rf HS.out.1 (by decide) HS.out.2.1 hg1
      have hgs1 := (grown_trans HS.out.2.2 hg1).size
      rw [HGs.out] at hgs1
      have H1 : Hid (w1.ownsRow g 3 1 (.slice ak j cak) j (intVals l) ∧ Rf w1 b s sn ∧ w.grownBy w1 (some b)) := ⟨ho1, hr1, grown_trans HS.out.2.2 hg1⟩
      clear ho1 hr1 hg1 HS HC
      go_wp2_with (at_builtin; go_loud (refine wpList_append_own _ rfl _ _ 22 rfl g 3 i1 (.int .i64 0) 1 8 Tryd.underlying22 hi hz0 hz1 hz2 rfl (by decide) (.slice ak j cak) _ _ rfl (H1.out.1.alloc _) ⟨_, 0, none⟩ 1 1 [.int .i64 y] rfl rfl ?c1 (one_int y) ?c3 ?c4 ?c5 ?_))
      case c1 =>
        intro i u hu
        match i, hu with
        | 0, hu => simp at hu; subst hu; simp [Addr.add]
      case c3 => unfold maxLen; omega
      case c4 => omega
      case c5 => simp; omega
      intro v' w3 hown' hgrow _
      have H3 : Hid (w3.ownsRow g 3 1 v' (j + 1) (intVals (l ++ [y])) ∧ Rf w3 b s sn ∧ w.grownBy w3 (some b)) := by
        refine ⟨?_, rf_own (H1.out.2.1.other (grown_alloc' (grown_refl w1 none) _) (by simp)) (H1.out.1.alloc _) (by decide) hgrow, grown_own (grown_alloc' H1.out.2.2 _) (H1.out.1.alloc _) (by rw [HGs.out]; exact Nat.le_refl _) hgrow⟩
        rw [intVals, List.map_append]; exact hown'
      clear hown' hgrow H1
      go_wp2
      go_roundw
      case rel => exact ⟨j + 1, by omega, by go_num, by rw [HN.out]; exact H3.out.1, by rw [HN.out]; exact H3.out.2.1, H3.out.2.2⟩
      case measure => simp [intOf]; omega
    · have hjn : j = n := by omega
      subst hjn
      have HS : Hid (wr.ownsRow g 3 1 (.slice ak j cak) j (intVals (rnums s.data.toList j i0).1) ∧ Rf wr b s (rnums s.data.toList j i0).2 ∧ w.grownBy wr (some b)) := ⟨hown, hrf, hgr⟩
      clear hown hrf hgr HR
      rcases hn0 with ⟨h1, h2⟩ | ⟨h1, h2⟩
      · have hd : decide ((j : Int) < z) = false := by simp; omega
        go_wp2
        go_ret
        exact ⟨_, rfl, HS.out.1, HS.out.2.1, HS.out.2.2⟩
      · subst h2
        have hd : decide (z ≤ (most : Int)) = false := by simp; omega
        have hd2 : decide ((0 : Int) < z) = true := by simp; omega
        go_wp2
        go_ret
        exact ⟨_, rfl, HS.out.1, HS.out.2.1, HS.out.2.2⟩
end Go.Proofs.YtignpgoicoojiaaDoor
