/-
  The walk of the document's own Right of a record.
-/
import Derived.Test.YtdhphipdpjhhbaaGreatDoorRecs
import Derived.Test.YtdhphipdpjhhbaaGreatDoorRefSpans
namespace Go.Proofs.YtdhphipdpjhhbaaGreatDoor
open Go.RowKit

theorem bases_letN (b : ByteArray) : basesB b.data.toList = (decide (letN b.data.toList = b.size) && (decide (1 ≤ b.size) && decide (b.size ≤ 65536))) := by
  have h := letN_all b.data.toList
  rw [size_toList] at h
  have h0 : (b.data.toList ≠ []) ↔ 1 ≤ b.size := by
    rw [ne_eq, size_zero]; omega
  rw [Bool.eq_iff_iff]
  unfold basesB
  simp only [Bool.and_eq_true, decide_eq_true_eq, size_toList, h0, ← h]
  constructor
  · rintro ⟨h1, h2, h3⟩; exact ⟨h3, h1, h2⟩
  · rintro ⟨h1, h2, h3⟩; exact ⟨h2, h3, h1⟩
theorem placeOk_ref (r : Rec) (h : r.mapped = true) : placeOkB r = (decide ((spansA r.runs).2.2 = 0) && (nameB r.ref && (decide ((spansA r.runs).2.1 = (r.bases.length : Int)) && (decide (1 ≤ r.pos) && (decide (r.pos ≤ 65537) && decide (r.pos - 1 + (spansA r.runs).1 ≤ 65536)))))) := by
  unfold placeOkB
  rw [if_pos h]
  by_cases hr : rightB r.runs = true
  · have hx := right_ref hr
    have : spansA r.runs = (refB r.runs, readB r.runs, 0) := by rw [spansA, if_pos hr]
    rw [this, hr]
    rw [Bool.eq_iff_iff]
    simp only [Bool.and_eq_true, decide_eq_true_eq, true_and]
    constructor
    · rintro ⟨h1, h2, h3, h4⟩; exact ⟨h1, h3, h2, by omega, h4⟩
    · rintro ⟨h1, h2, h3, _, h4⟩; exact ⟨h1, h3, h2, h4⟩
  · rw [Bool.not_eq_true] at hr
    have : spansA r.runs = (0, 0, 40) := by rw [spansA, hr]; rfl
    rw [hr, this]; simp

set_option maxRecDepth 20000 in
set_option maxHeartbeats 2000000 in
theorem refRec_calls (v : RV) (l : List Rn) (w : World) (h : RecOk w v l) :
    Calls Tryz.prog 26 #[v.val] w fun e w' => e = .returned (.bool (rightR (v.R l))) ∧ Below w.heap.size w w' := by
  obtain ⟨nm, m, rf, p, ao, len, cap, b, q, s⟩ := v
  have HSp : Hid (∀ W, Below w.heap.size w W → Calls Tryz.prog 49 #[.slice ao len cap] W fun e w' => e = .returned (spansV (spansA l)) ∧ Below W.heap.size W w') := fun W hW => refSpans_calls ao len cap l W (h.runs.below hW)
  have H1 : Hid (∀ W, Calls Tryz.prog 46 #[.string nm] W fun e w' => e = .returned (.bool (nameB nm.data.toList)) ∧ w' = W) := fun W => refName_calls nm W h.name
  have H2 : Hid (∀ W, Calls Tryz.prog 47 #[.string b] W fun e w' => e = .returned (.int .i64 (letN b.data.toList)) ∧ w' = W) := fun W => letters_calls b W h.bases
  have H3 : Hid (∀ W, Calls Tryz.prog 48 #[.string q] W fun e w' => e = .returned (.bool (signsB q.data.toList)) ∧ w' = W) := fun W => refSigns_calls q W h.quals
  have H4 : Hid (∀ W, Calls Tryz.prog 46 #[.string rf] W fun e w' => e = .returned (.bool (nameB rf.data.toList)) ∧ w' = W) := fun W => refName_calls rf W h.ref
  have HR := rightR_split ((⟨nm, m, rf, p, ao, len, cap, b, q, s⟩ : RV).R l)
  simp only [RV.R, size_toList, bases_letN] at HR
  have hbs := h.bases
  have hqs := h.quals
  have hpf := h.pos
  have hsf := h.score
  have hln := h.runs.length
  have hls := h.runs.short
  have hlt : letN b.data.toList ≤ b.size := by have := letN_le b.data.toList; rwa [size_toList] at this
  unfold maxLen at hbs hqs hls
  unfold fitI at hpf hsf
  simp only at hbs hqs hpf hsf hln hls
  have HR' : Hid (rightR ((⟨nm, m, rf, p, ao, len, cap, b, q, s⟩ : RV).R l) = _) := HR
  clear HR h
  generalize rightR ((⟨nm, m, rf, p, ao, len, cap, b, q, s⟩ : RV).R l) = Z at *
  generalize nameB nm.data.toList = A1 at *
  generalize letN b.data.toList = n at *
  generalize signsB q.data.toList = A4 at *
  have HN : Hid (∀ o, Below w.heap.size w (w.alloc o)) := below_new w
  by_cases hfirst : A1 = true ∧ A4 = true ∧ n = b.size ∧ 1 ≤ b.size ∧ b.size ≤ 65536 ∧ q.size = b.size
  case neg =>
    have HF : Hid (Z = false) := by
      show _ = _
      rw [HR'.out]
      cases A1 <;> cases A4 <;> simp_all
    clear HR' H4 HSp
    simp only [RV.val]
    have hx : A1 = false ∨ A4 = false ∨ ((n : Int) != (b.size : Int)) = true ∨ b.size < 1 ∨ 65536 < b.size ∨ ((q.size : Int) != (n : Int)) = true := by
      simp only [bne_iff_ne]
      cases A1
      · exact .inl rfl
      cases A4
      · exact .inr (.inl rfl)
      simp only [true_and] at hfirst
      right; right; omega
    clear hfirst
    go_enter Tryz.func26, Tryz.ntmps26
    go_wp2_with (first
      | (go_at_call 46; refine (H1.out _).mono ?_; rintro e w' ⟨rfl, rfl⟩; clear H1)
      | (go_at_call 47; refine (H2.out _).mono ?_; rintro e w' ⟨rfl, rfl⟩; clear H2)
      | (go_at_call 48; refine (H3.out _).mono ?_; rintro e w' ⟨rfl, rfl⟩; clear H3)
      | fail)
    all_goals first
      | (go_ret; exact ⟨ret_bool HF.out.symm, HN.out _⟩)
      | (exfalso; rcases hx with hx | hx | hx | hx | hx | hx <;> first | omega | (simp_all; done) | (simp_all; omega))
  case pos =>
    obtain ⟨rfl, rfl, rfl, hb1, hb2, hqb⟩ := hfirst
    have HZ : Hid (Z = placeOkB ((⟨nm, m, rf, p, ao, len, cap, b, q, s⟩ : RV).R l)) := by
      show _ = _
      rw [HR'.out]
      simp [hqb, RV.R, hb1, hb2]
    have hq2 : ((q.size : Int) != (b.size : Int)) = false := by rw [bne_eq_false_iff_eq]; omega
    have hb3 : decide ((b.size : Int) < 1) = false := by simp; omega
    have hb4 : decide ((65536 : Int) < (b.size : Int)) = false := by simp; omega
    have hb5 : ((b.size : Int) != (b.size : Int)) = false := by simp
    clear HR' hqb hlt
    cases m with
    | false =>
      have hl0 : decide (l = []) = ((len : Int) == 0) := by
        rw [Bool.eq_iff_iff]
        simp only [decide_eq_true_eq, beq_iff_eq]
        rw [← List.length_eq_zero_iff, hln]; omega
      have HZ2 : Hid (Z = ((decide (rf.toList = []) && (decide (p = 0) && decide (s = 0))) && ((len : Int) == 0))) := by
        show _ = _
        rw [HZ.out, placeOk_plain _ rfl, ByteArray.toList_eq]
        exact congrArg (fun x => ((decide (rf.data.toList = []) && (decide (p = 0) && decide (s = 0))) && x)) hl0
      clear HZ HSp H4 hl0 hln
      simp only [RV.val]
      go_enter Tryz.func26, Tryz.ntmps26
      go_wp2_with (first
        | (go_at_call 46; refine (H1.out _).mono ?_; rintro e w' ⟨rfl, rfl⟩; clear H1)
        | (go_at_call 47; refine (H2.out _).mono ?_; rintro e w' ⟨rfl, rfl⟩; clear H2)
        | (go_at_call 48; refine (H3.out _).mono ?_; rintro e w' ⟨rfl, rfl⟩; clear H3))
      all_goals (go_ret; refine ⟨ret_bool ?_, HN.out _⟩; rw [HZ2.out]; clear HZ2 HN; simp_all)
    | true =>
      have HZ2 : Hid (Z = (decide ((spansA l).2.2 = 0) && (nameB rf.data.toList && (decide ((spansA l).2.1 = (b.size : Int)) && (decide (1 ≤ p) && (decide (p ≤ 65537) && decide (p - 1 + (spansA l).1 ≤ 65536))))))) := by
        show _ = _
        have e : ((b.data.toList.length : Nat) : Int) = (b.size : Int) := by rw [size_toList]
        rw [HZ.out, placeOk_ref _ rfl, ← e]
        rfl
      obtain ⟨hx1, hx2⟩ := spansA_bounds l
      obtain ⟨x, y, z, hxyz⟩ : ∃ x y z, spansA l = (x, y, z) := ⟨_, _, _, rfl⟩
      rw [hxyz] at HSp HZ2 hx1 hx2
      simp only at HZ2 hx1 hx2
      clear HZ hxyz hln
      generalize nameB rf.data.toList = B1 at *
      simp only [RV.val]
      go_enter Tryz.func26, Tryz.ntmps26
      go_wp2_with (first
        | (go_at_call 46; refine (H1.out _).mono ?_; rintro e w' ⟨rfl, rfl⟩; clear H1)
        | (go_at_call 47; refine (H2.out _).mono ?_; rintro e w' ⟨rfl, rfl⟩; clear H2)
        | (go_at_call 48; refine (H3.out _).mono ?_; rintro e w' ⟨rfl, rfl⟩; clear H3)
        | fail)
      refine (HSp.out _ (HN.out _)).mono ?_
      rintro e w1 ⟨rfl, hb1'⟩
      have HB1 : Hid (Below w.heap.size w w1) := below_box hb1'
      have hc2 := box_cell hb1' (i := 2) rfl
      have hc3 := box_cell hb1' (i := 3) rfl
      clear hb1' HSp
      simp only [spansV]
      go_wp2_with (go_at_call 46; refine (H4.out _).mono ?_; rintro e w' ⟨rfl, rfl⟩; clear H4)
      all_goals (go_ret; refine ⟨ret_bool ?_, HB1.out⟩; rw [HZ2.out]; clear HZ2 HN HB1 hc2 hc3; simp_all <;> (intros; omega))
end Go.Proofs.YtdhphipdpjhhbaaGreatDoor
