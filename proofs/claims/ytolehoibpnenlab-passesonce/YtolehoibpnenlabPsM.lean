/-
  Clamp.
-/
import Derived.Test.YtolehoibpnenlabPsL
namespace Go.Proofs.Ytolehoibpnenlab
open Go.RowKit Go.Deep Go.Maps

def LoHi (x : Rc) (b : Bool) (lo hi : Int) : Rc := { x with banded := b, lo := lo, hi := hi }
theorem wk_band {w : World} {base wb : Nat} {x : Rc} {vs : List Int} {y : Ly} (h : WkAt w base wb x vs y) (lo hi : Int) : WkAt ((w.setCell ⟨wb, 8, none⟩ (.int .i64 lo)).setCell ⟨wb, 9, none⟩ (.int .i64 hi)) base wb { x with lo := lo, hi := hi } vs y :=
  h.store (grown_trans (grown_set _ _ _ _) (grown_set _ _ _ _)) (by rw [heap_set _ (heap_set _ h.box)]; rfl) rfl rfl rfl
theorem wk_open {w : World} {base wb : Nat} {x : Rc} {vs : List Int} {y : Ly} (h : WkAt w base wb x vs y) : WkAt (((w.setCell ⟨wb, 7, none⟩ (.bool false)).setCell ⟨wb, 8, none⟩ (.int .i64 0)).setCell ⟨wb, 9, none⟩ (.int .i64 0)) base wb { x with banded := false, lo := 0, hi := 0 } vs y :=
  h.store (grown_trans (grown_trans (grown_set _ _ _ _) (grown_set _ _ _ _)) (grown_set _ _ _ _)) (by rw [heap_set _ (heap_set _ (heap_set _ h.box))]; rfl) rfl rfl rfl
set_option maxRecDepth 20000 in
set_option maxHeartbeats 4000000 in
theorem clamp_calls (w : World) (base wb : Nat) (x : Rc) (vs : List Int) (y : Ly) (h : WkAt w base wb x vs y) :
    Calls Try.prog 21 #[.pointer (some ⟨wb, 0, none⟩)] w fun e w' => e = .returned (.tuple #[]) ∧ (∃ y', WkAt w' base wb (clampB x) vs y') ∧ Below base w w' := by
  have HW : Hid (WkAt w base wb x vs y) := h
  have c7 : w.cell? ⟨wb, 7, none⟩ = some (.bool x.banded) := h.cell 7 _ rfl
  have c8 : w.cell? ⟨wb, 8, none⟩ = some (.int .i64 x.lo) := h.cell 8 _ rfl
  have c9 : w.cell? ⟨wb, 9, none⟩ = some (.int .i64 x.hi) := h.cell 9 _ rfl
  have ff : ∀ i, w.frozen? ⟨wb, i, none⟩ = false := fun i => h.froz i
  have HF : Hid (base ≤ wb) := h.fro
  clear h
  cases hb : x.banded with
  | false =>
    rw [hb] at c7
    have HE : Hid (clampB x = x) := by show _ = _; unfold clampB; rw [hb]; rfl
    rw [HE.out]
    clear hb HE
    go_enter Try.func21, Try.ntmps21
    go_wp2
    go_end0
    exact ⟨rfl, ⟨y, HW.out⟩, Below.refl _ _⟩
  | true =>
    rw [hb] at c7
    by_cases h1 : 65536 < x.lo
    · have HE : Hid (clampB x = { x with lo := 65537, hi := 65537 }) := by show _ = _; unfold clampB; rw [hb, if_pos rfl, if_pos h1]
      rw [HE.out]
      clear HE hb
      go_enter Try.func21, Try.ntmps21
      go_wp2
      go_end0
      exact ⟨rfl, ⟨y, wk_band HW.out _ _⟩, ((Below.refl _ _).setCell HF.out _).setCell HF.out _⟩
    · by_cases h2 : x.hi < -65536
      · have HE : Hid (clampB x = { x with lo := -65537, hi := -65537 }) := by show _ = _; unfold clampB; rw [hb, if_pos rfl, if_neg h1, if_pos h2]
        rw [HE.out]
        clear HE hb
        go_enter Try.func21, Try.ntmps21
        go_wp2
        go_end0
        exact ⟨rfl, ⟨y, wk_band HW.out _ _⟩, ((Below.refl _ _).setCell HF.out _).setCell HF.out _⟩
      · have c8' : w.drew.cell? ⟨wb, 8, none⟩ = some (.int .i64 x.lo) := c8
        have c9' : w.drew.cell? ⟨wb, 9, none⟩ = some (.int .i64 x.hi) := c9
        have hs0 := And.intro c8' c9'
        have HCL : Hid (clampB x = if max x.lo (-65536) = -65536 ∧ min x.hi 65536 = 65536 then { x with banded := false, lo := 0, hi := 0 } else { x with lo := max x.lo (-65536), hi := min x.hi 65536 }) := by
          show _ = _
          unfold clampB
          rw [hb, if_pos rfl, if_neg h1, if_neg h2]
        obtain ⟨X, hX⟩ : ∃ X, clampB x = X := ⟨_, rfl⟩
        rw [hX] at HCL ⊢
        clear hX hb
        go_enter Try.func21, Try.ntmps21
        go_wp2_with fail
        refine wp_region_Y (fun j => [17, 21].contains j) (fun W : World => W.cell? ⟨wb, 8, none⟩ = some (.int .i64 x.lo) ∧ W.cell? ⟨wb, 9, none⟩ = some (.int .i64 x.hi)) (by kernel_rfl) ?_
        refine wpAnyY_pure (i := 0) 2 (v := .pointer (some ⟨wb, 0, none⟩)) rfl rfl (by kernel_rfl) (by kernel_rfl) (by kernel_rfl) (fun _ _ _ h => h) (Or.inl ⟨by rfl, by (intro W _; go_simp)⟩) ?_
        simp only [Act.put, List.setIfInBounds_toArray, List.set_cons_succ, List.set_cons_zero]
        refine wpAnyY_pure (i := 1) 3 (v := .pointer (some ⟨wb, 0, none⟩)) rfl rfl (by kernel_rfl) (by kernel_rfl) (by kernel_rfl) (fun _ _ _ h => h) (Or.inl ⟨by rfl, by (intro W _; go_simp)⟩) ?_
        simp only [Act.put, List.setIfInBounds_toArray, List.set_cons_succ, List.set_cons_zero]
        refine wpAnyY_pure (i := 2) 4 (v := .pointer (some ⟨wb, 0, none⟩)) rfl rfl (by kernel_rfl) (by kernel_rfl) (by kernel_rfl) (fun _ _ _ h => h) (Or.inl ⟨by rfl, by (intro W _; go_simp)⟩) ?_
        simp only [Act.put, List.setIfInBounds_toArray, List.set_cons_succ, List.set_cons_zero]
        refine wpAnyY_takeD (i := 3) 5 (v := .pointer (some ⟨wb, 0, none⟩)) rfl rfl (by kernel_rfl) (by kernel_rfl) (late_of (by kernel_rfl)) (by kernel_rfl) (by kernel_rfl) (fun _ _ _ h => h) hs0 (Or.inl ⟨by rfl, by (intro W hW; obtain ⟨s0, s1⟩ := hW; go_simp)⟩) ?_
        simp only [Act.put, List.setIfInBounds_toArray, List.set_cons_succ, List.set_cons_zero]
        refine wpAnyY_takeD (i := 4) 6 (v := .pointer (some ⟨wb, 0, none⟩)) rfl rfl (by kernel_rfl) (by kernel_rfl) (late_of (by kernel_rfl)) (by kernel_rfl) (by kernel_rfl) (fun _ _ _ h => h) hs0 (Or.inl ⟨by rfl, by (intro W hW; obtain ⟨s0, s1⟩ := hW; go_simp)⟩) ?_
        simp only [Act.put, List.setIfInBounds_toArray, List.set_cons_succ, List.set_cons_zero]
        refine wpAnyY_takeD (i := 5) 7 (v := .pointer (some ⟨wb, 8, none⟩)) rfl rfl (by kernel_rfl) (by kernel_rfl) (late_of (by kernel_rfl)) (by kernel_rfl) (by kernel_rfl) (fun _ _ _ h => h) hs0 (Or.inl ⟨by rfl, by (intro W hW; obtain ⟨s0, s1⟩ := hW; go_simp)⟩) ?_
        simp only [Act.put, List.setIfInBounds_toArray, List.set_cons_succ, List.set_cons_zero]
        refine wpAnyY_takeD (i := 6) 8 (v := .int .i64 x.lo) rfl rfl (by kernel_rfl) (by kernel_rfl) (late_of (by kernel_rfl)) (by kernel_rfl) (by kernel_rfl) (fun _ _ _ h => h) hs0 (Or.inl ⟨by rfl, by (intro W hW; obtain ⟨s0, s1⟩ := hW; go_simp)⟩) ?_
        simp only [Act.put, List.setIfInBounds_toArray, List.set_cons_succ, List.set_cons_zero]
        refine wpAnyY_takeD (i := 7) 9 (v := .int .i64 (max x.lo (-65536))) rfl rfl (by kernel_rfl) (by kernel_rfl) (late_of (by kernel_rfl)) (by kernel_rfl) (by kernel_rfl) (fun _ _ _ h => h) hs0 (Or.inl ⟨by rfl, by (intro W hW; obtain ⟨s0, s1⟩ := hW; go_simp)⟩) ?_
        simp only [Act.put, List.setIfInBounds_toArray, List.set_cons_succ, List.set_cons_zero]
        refine wpAnyY_pure (i := 8) 10 (v := .pointer (some ⟨wb, 0, none⟩)) rfl rfl (by kernel_rfl) (by kernel_rfl) (by kernel_rfl) (fun _ _ _ h => h) (Or.inl ⟨by rfl, by (intro W _; go_simp)⟩) ?_
        simp only [Act.put, List.setIfInBounds_toArray, List.set_cons_succ, List.set_cons_zero]
        refine wpAnyY_takeD (i := 9) 11 (v := .pointer (some ⟨wb, 0, none⟩)) rfl rfl (by kernel_rfl) (by kernel_rfl) (late_of (by kernel_rfl)) (by kernel_rfl) (by kernel_rfl) (fun _ _ _ h => h) hs0 (Or.inl ⟨by rfl, by (intro W hW; obtain ⟨s0, s1⟩ := hW; go_simp)⟩) ?_
        simp only [Act.put, List.setIfInBounds_toArray, List.set_cons_succ, List.set_cons_zero]
        refine wpAnyY_takeD (i := 10) 12 (v := .pointer (some ⟨wb, 0, none⟩)) rfl rfl (by kernel_rfl) (by kernel_rfl) (late_of (by kernel_rfl)) (by kernel_rfl) (by kernel_rfl) (fun _ _ _ h => h) hs0 (Or.inl ⟨by rfl, by (intro W hW; obtain ⟨s0, s1⟩ := hW; go_simp)⟩) ?_
        simp only [Act.put, List.setIfInBounds_toArray, List.set_cons_succ, List.set_cons_zero]
        refine wpAnyY_takeD (i := 11) 13 (v := .pointer (some ⟨wb, 9, none⟩)) rfl rfl (by kernel_rfl) (by kernel_rfl) (late_of (by kernel_rfl)) (by kernel_rfl) (by kernel_rfl) (fun _ _ _ h => h) hs0 (Or.inl ⟨by rfl, by (intro W hW; obtain ⟨s0, s1⟩ := hW; go_simp)⟩) ?_
        simp only [Act.put, List.setIfInBounds_toArray, List.set_cons_succ, List.set_cons_zero]
        refine wpAnyY_takeD (i := 12) 14 (v := .int .i64 x.hi) rfl rfl (by kernel_rfl) (by kernel_rfl) (late_of (by kernel_rfl)) (by kernel_rfl) (by kernel_rfl) (fun _ _ _ h => h) hs0 (Or.inl ⟨by rfl, by (intro W hW; obtain ⟨s0, s1⟩ := hW; go_simp)⟩) ?_
        simp only [Act.put, List.setIfInBounds_toArray, List.set_cons_succ, List.set_cons_zero]
        refine wpAnyY_pure (i := 13) 15 (v := .int .i64 (min x.hi 65536)) rfl rfl (by kernel_rfl) (by kernel_rfl) (by kernel_rfl) (fun _ _ _ h => h) (Or.inl ⟨by rfl, by (intro W _; go_simp)⟩) ?_
        simp only [Act.put, List.setIfInBounds_toArray, List.set_cons_succ, List.set_cons_zero]
        refine wpAnyY_pure (i := 14) 16 (v := .pointer (some ⟨wb, 0, none⟩)) rfl rfl (by kernel_rfl) (by kernel_rfl) (by kernel_rfl) (fun _ _ _ h => h) (Or.inl ⟨by rfl, by (intro W _; go_simp)⟩) ?_
        simp only [Act.put, List.setIfInBounds_toArray, List.set_cons_succ, List.set_cons_zero]
        refine wpAnyY_pure (i := 15) 17 (v := .pointer (some ⟨wb, 0, none⟩)) rfl rfl (by kernel_rfl) (by kernel_rfl) (by kernel_rfl) (fun _ _ _ h => h) (Or.inl ⟨by rfl, by (intro W _; go_simp)⟩) ?_
        simp only [Act.put, List.setIfInBounds_toArray, List.set_cons_succ, List.set_cons_zero]
        refine wpAnyY_pure (i := 16) 18 (v := .pointer (some ⟨wb, 8, none⟩)) rfl rfl (by kernel_rfl) (by kernel_rfl) (by kernel_rfl) (fun _ _ _ h => h) (Or.inl ⟨by rfl, by (intro W _; go_simp)⟩) ?_
        simp only [Act.put, List.setIfInBounds_toArray, List.set_cons_succ, List.set_cons_zero]
        refine wpAnyY_one (i := 17) rfl (by kernel_rfl) (fun Kc hKc => ?_)
        go_simp
        refine hKc.out _ _ (fun h => absurd h (by decide)) ?_
        clear hKc Kc
        refine wpAnyY_one (i := 18) rfl (by kernel_rfl) (fun Kc hKc => ?_)
        go_simp
        refine hKc.out _ _ (fun _ h => h) ?_
        clear hKc Kc
        refine wpAnyY_one (i := 19) rfl (by kernel_rfl) (fun Kc hKc => ?_)
        go_simp
        refine hKc.out _ _ (fun _ h => h) ?_
        clear hKc Kc
        refine wpAnyY_one (i := 20) rfl (by kernel_rfl) (fun Kc hKc => ?_)
        go_simp
        refine hKc.out _ _ (fun _ h => h) ?_
        clear hKc Kc
        refine wpAnyY_one (i := 21) rfl (by kernel_rfl) (fun Kc hKc => ?_)
        go_simp
        refine hKc.out _ _ (fun h => absurd h (by decide)) ?_
        clear hKc Kc
        refine wpAnyY_done (by kernel_rfl) ?_ _
        obtain ⟨w5, hw5⟩ : ∃ w5, w5 = ((w.setCell ⟨wb, 8, none⟩ (.int .i64 (max x.lo (-65536)))).setCell ⟨wb, 9, none⟩ (.int .i64 (min x.hi 65536))).drew := ⟨_, rfl⟩
        rw [← hw5]
        obtain ⟨a, ha⟩ : ∃ a, max x.lo (-65536) = a := ⟨_, rfl⟩
        obtain ⟨b, hb2⟩ : ∃ b, min x.hi 65536 = b := ⟨_, rfl⟩
        rw [ha, hb2] at hw5 HCL
        have HM : Hid (WkAt w5 base wb { x with lo := a, hi := b } vs y ∧ Below base w w5) := by
          rw [hw5]
          exact ⟨(wk_band HW.out a b).heap rfl, (((Below.refl _ _).setCell HF.out _).setCell HF.out _).drew⟩
        rw [ha, hb2]
        have e8 : w5.cell? ⟨wb, 8, none⟩ = some (.int .i64 a) := HM.out.1.cell 8 _ rfl
        have e9 : w5.cell? ⟨wb, 9, none⟩ = some (.int .i64 b) := HM.out.1.cell 9 _ rfl
        have e7 : w5.cell? ⟨wb, 7, none⟩ = some (.bool x.banded) := HM.out.1.cell 7 _ rfl
        have ff5 : ∀ i, w5.frozen? ⟨wb, i, none⟩ = false := fun i => HM.out.1.froz i
        clear hw5 ha hb2 c7 c8 c9 c8' c9' hs0 ff
        by_cases g1 : a = -65536
        · by_cases g2 : b = 65536
          · rw [if_pos ⟨g1, g2⟩] at HCL
            rw [g1] at e8
            rw [g2] at e9
            rw [g1, g2]
            clear g1 g2
            go_wp2
            go_end0
            refine ⟨rfl, ⟨y, ?_⟩, ((HM.out.2.setCell HF.out _).setCell HF.out _).setCell HF.out _⟩
            rw [HCL.out]
            have hwo := wk_open HM.out.1
            exact hwo
          · rw [if_neg (fun e => g2 e.2)] at HCL
            have g3 : decide (b = 65536) = false := by simpa using g2
            have g4 : (b == 65536) = false := by simpa using g2
            rw [g1] at e8 ⊢
            have HG : Hid (a = -65536) := g1
            clear g1
            go_wp2
            go_end0
            exact ⟨rfl, ⟨y, by rw [HCL.out]; exact HM.out.1⟩, HM.out.2⟩
        · rw [if_neg (fun e => g1 e.1)] at HCL
          have g3 : decide (a = -65536) = false := by simpa using g1
          have g4 : (a == -65536) = false := by simpa using g1
          go_wp2
          go_end0
          exact ⟨rfl, ⟨y, by rw [HCL.out]; exact HM.out.1⟩, HM.out.2⟩
theorem clampP_ok : PassOk clampP := by
  refine ⟨enters_of Try.func21 (by kernel_rfl) rfl, fun w base wb x vs y h _ _ => clamp_calls w base wb x vs y h, fun x vs hr hv => ⟨clamp_right hr, ?_⟩⟩
  show (valsB (clampB x).defs).1 = vs
  rw [(clamp_defs x).1]; exact hv
end Go.Proofs.Ytolehoibpnenlab

