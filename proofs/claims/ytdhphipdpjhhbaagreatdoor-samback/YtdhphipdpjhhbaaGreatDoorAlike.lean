/-
  The walks of the statements' own texts, numbers and alike.
-/
import Derived.Test.YtdhphipdpjhhbaaGreatDoorSameR
import Derived.Test.YtdhphipdpjhhbaaGreatDoorRefFits
import Derived.Deep.RegionHeld3
namespace Go.Proofs.YtdhphipdpjhhbaaGreatDoor
open Go.RowKit

theorem takes_next {α : Type} {qs ps : List α} {k : Nat} {q p : α} (hq : qs[k]? = some q) (hp : ps[k]? = some p) (h : qs.take k = ps.take k) (e : q = p) : qs.take (k + 1) = ps.take (k + 1) := by
  obtain ⟨h1, h2⟩ := List.getElem?_eq_some_iff.1 hq
  obtain ⟨h3, h4⟩ := List.getElem?_eq_some_iff.1 hp
  rw [List.take_succ_eq_append_getElem h1, List.take_succ_eq_append_getElem h3, h2, h4, h, e]
theorem takes_not {α : Type} {qs ps : List α} {k : Nat} {q p : α} (hq : qs[k]? = some q) (hp : ps[k]? = some p) (e : ¬ q = p) : ¬ qs = ps := by
  intro h
  rw [h, hp] at hq
  exact e (Option.some.inj hq).symm
set_option maxRecDepth 20000 in
set_option maxHeartbeats 2000000 in
theorem texts_calls (ao : Option Addr) (n ca : Nat) (us : List ByteArray) (bo : Option Addr) (m cb : Nat) (vs : List ByteArray) (w : World) (ha : StrsAt w ao n us) (hb : StrsAt w bo m vs) :
    Calls Tryz.prog 23 #[.slice ao n ca, .slice bo m cb] w fun e w' => e = .returned (.bool (decide (us = vs))) ∧ Below w.heap.size w w' := by
  have HA : Hid (StrsAt w ao n us) := ha
  have HB : Hid (StrsAt w bo m vs) := hb
  have HLa : Hid (us.length = n) := ha.length
  have HLb : Hid (vs.length = m) := hb.length
  have h1 := ha.short
  have h2 := hb.short
  clear ha hb
  generalize hZ : decide (us = vs) = Z
  have HZ : Hid (decide (us = vs) = Z) := hZ
  clear hZ
  by_cases hnm : n = m
  case neg =>
    have hd : ((n : Int) != (m : Int)) = true := by rw [bne_iff_ne]; omega
    go_enter Tryz.func23, Tryz.ntmps23
    go_wp2
    go_ret
    exact ⟨ret_bool (by rw [← HZ.out]; exact (decide_eq_false (fun e => hnm (by rw [← HLa.out, ← HLb.out, e]))).symm), Below.refl _ _⟩
  subst hnm
  have hd : ((n : Int) != (n : Int)) = false := by simp
  go_enter Tryz.func23, Tryz.ntmps23
  go_wp2_with fail
  go_loopw [5] (fun i wr => ∃ k : Nat, k ≤ n ∧ i = .int .i64 k ∧ us.take k = vs.take k ∧ Below w.heap.size w wr) (fun i _ => n - (intOf i).toNat)
  case atStart => exact ⟨0, Nat.zero_le _, rfl, by simp, Below.refl _ _⟩
  case round =>
    obtain ⟨k, hk, rfl, heq, hbel⟩ := hrel
    have HE : Hid (us.take k = vs.take k) := heq
    have HW : Hid (Below w.heap.size w wr) := hbel
    clear heq hd
    by_cases hlt : k < n
    · obtain ⟨b1, o1, rfl, hc1⟩ := (HA.out.below hbel).cells (by omega)
      obtain ⟨b2, o2, rfl, hc2⟩ := (HB.out.below hbel).cells (by omega)
      obtain ⟨y, hq⟩ : ∃ y, us[k]? = some y := ⟨_, List.getElem?_eq_getElem (by rw [HLa.out]; exact hlt)⟩
      obtain ⟨z, hp⟩ : ∃ z, vs[k]? = some z := ⟨_, List.getElem?_eq_getElem (by rw [HLb.out]; exact hlt)⟩
      have x1 := hc1 k y hq
      have y1 := hc2 k z hp
      have HQ : Hid (us[k]? = some y ∧ vs[k]? = some z) := ⟨hq, hp⟩
      have hdk : decide ((k : Int) < (n : Int)) = true := by simp; omega
      have hkn : (k : Int) < (n : Int) := by omega
      have HB2 : Hid (∀ nq, Below w.heap.size w (wr.drewN nq)) := fun nq => HW.out.trans ((below_drewN (Below.refl _ _) nq).mono HW.out.size)
      clear hc1 hc2 hq hp hbel
      by_cases he : y.toList = z.toList
      · have he1 : (y.toList == z.toList) = true := by rw [beq_iff_eq]; exact he
        have HN : Hid (us.take (k + 1) = vs.take (k + 1)) := takes_next HQ.out.1 HQ.out.2 HE.out (byte_ext (by rwa [ByteArray.toList_eq, ByteArray.toList_eq] at he))
        clear he
        go_wp2_with fail
        go_quiet (fail)
        have HB3 := HB2.out nq
        generalize wr.drewN nq = wz at *
        go_wp2
        go_roundw
        case rel => exact ⟨k + 1, by omega, by go_num, HN.out, HB3⟩
        case measure => simp [intOf]; omega
      · have he1 : (y.toList == z.toList) = false := by rw [beq_eq_false_iff_ne]; exact he
        have HN : Hid (¬ us = vs) := takes_not HQ.out.1 HQ.out.2 (fun e => he (by rw [e]))
        clear he
        go_wp2_with fail
        go_quiet (fail)
        have HB3 := HB2.out nq
        generalize wr.drewN nq = wz at *
        go_wp2
        go_ret
        exact ⟨ret_bool (by rw [← HZ.out]; exact (decide_eq_false HN.out).symm), HB3⟩
    · have hdk : decide ((k : Int) < (n : Int)) = false := by simp; omega
      have HN : Hid (us = vs) := by
        have h := HE.out
        rw [List.take_of_length_le (by rw [HLa.out]; omega), List.take_of_length_le (by rw [HLb.out]; omega)] at h
        exact h
      go_wp2
      go_ret
      exact ⟨ret_bool (by rw [← HZ.out]; exact (decide_eq_true HN.out).symm), HW.out⟩
set_option maxRecDepth 20000 in
set_option maxHeartbeats 2000000 in
theorem numbers_calls (ao : Option Addr) (n ca : Nat) (us : List Int) (bo : Option Addr) (m cb : Nat) (vs : List Int) (w : World) (ha : IntsAt w ao n us) (hb : IntsAt w bo m vs) :
    Calls Tryz.prog 24 #[.slice ao n ca, .slice bo m cb] w fun e w' => e = .returned (.bool (decide (us = vs))) ∧ Below w.heap.size w w' := by
  have HA : Hid (IntsAt w ao n us) := ha
  have HB : Hid (IntsAt w bo m vs) := hb
  have HLa : Hid (us.length = n) := ha.length
  have HLb : Hid (vs.length = m) := hb.length
  have h1 := ha.short
  have h2 := hb.short
  clear ha hb
  generalize hZ : decide (us = vs) = Z
  have HZ : Hid (decide (us = vs) = Z) := hZ
  clear hZ
  by_cases hnm : n = m
  case neg =>
    have hd : ((n : Int) != (m : Int)) = true := by rw [bne_iff_ne]; omega
    go_enter Tryz.func24, Tryz.ntmps24
    go_wp2
    go_ret
    exact ⟨ret_bool (by rw [← HZ.out]; exact (decide_eq_false (fun e => hnm (by rw [← HLa.out, ← HLb.out, e]))).symm), Below.refl _ _⟩
  subst hnm
  have hd : ((n : Int) != (n : Int)) = false := by simp
  go_enter Tryz.func24, Tryz.ntmps24
  go_wp2_with fail
  go_loopw [5] (fun i wr => ∃ k : Nat, k ≤ n ∧ i = .int .i64 k ∧ us.take k = vs.take k ∧ Below w.heap.size w wr) (fun i _ => n - (intOf i).toNat)
  case atStart => exact ⟨0, Nat.zero_le _, rfl, by simp, Below.refl _ _⟩
  case round =>
    obtain ⟨k, hk, rfl, heq, hbel⟩ := hrel
    have HE : Hid (us.take k = vs.take k) := heq
    have HW : Hid (Below w.heap.size w wr) := hbel
    clear heq hd
    by_cases hlt : k < n
    · obtain ⟨b1, o1, rfl, hc1⟩ := (HA.out.below hbel).cells (by omega)
      obtain ⟨b2, o2, rfl, hc2⟩ := (HB.out.below hbel).cells (by omega)
      obtain ⟨y, hq⟩ : ∃ y, us[k]? = some y := ⟨_, List.getElem?_eq_getElem (by rw [HLa.out]; exact hlt)⟩
      obtain ⟨z, hp⟩ : ∃ z, vs[k]? = some z := ⟨_, List.getElem?_eq_getElem (by rw [HLb.out]; exact hlt)⟩
      have x1 := hc1 k y hq
      have y1 := hc2 k z hp
      have HQ : Hid (us[k]? = some y ∧ vs[k]? = some z) := ⟨hq, hp⟩
      have hdk : decide ((k : Int) < (n : Int)) = true := by simp; omega
      have hkn : (k : Int) < (n : Int) := by omega
      have HB2 : Hid (∀ nq, Below w.heap.size w (wr.drewN nq)) := fun nq => HW.out.trans ((below_drewN (Below.refl _ _) nq).mono HW.out.size)
      clear hc1 hc2 hq hp hbel
      by_cases he : y = z
      · have he1 : (y != z) = false := by simp [he]
        have HN : Hid (us.take (k + 1) = vs.take (k + 1)) := takes_next HQ.out.1 HQ.out.2 HE.out he
        clear he
        go_wp2_with fail
        go_quiet (fail)
        have HB3 := HB2.out nq
        generalize wr.drewN nq = wz at *
        go_wp2
        go_roundw
        case rel => exact ⟨k + 1, by omega, by go_num, HN.out, HB3⟩
        case measure => simp [intOf]; omega
      · have he1 : (y != z) = true := by simp [he]
        have HN : Hid (¬ us = vs) := takes_not HQ.out.1 HQ.out.2 he
        clear he
        go_wp2_with fail
        go_quiet (fail)
        have HB3 := HB2.out nq
        generalize wr.drewN nq = wz at *
        go_wp2
        go_ret
        exact ⟨ret_bool (by rw [← HZ.out]; exact (decide_eq_false HN.out).symm), HB3⟩
    · have hdk : decide ((k : Int) < (n : Int)) = false := by simp; omega
      have HN : Hid (us = vs) := by
        have h := HE.out
        rw [List.take_of_length_le (by rw [HLa.out]; omega), List.take_of_length_le (by rw [HLb.out]; omega)] at h
        exact h
      go_wp2
      go_ret
      exact ⟨ret_bool (by rw [← HZ.out]; exact (decide_eq_true HN.out).symm), HW.out⟩

set_option maxRecDepth 20000 in
set_option maxHeartbeats 4000000 in
theorem alike_calls (ao : Option Addr) (n ca : Nat) (us : List Rl) (bo : Option Addr) (m cb : Nat) (vs : List Rl) (w : World) (ha : RecsAt w ao n us) (hb : RecsAt w bo m vs) :
    Calls Tryz.prog 25 #[.slice ao n ca, .slice bo m cb] w fun e w' => e = .returned (.bool (alikeB (us.map Rl.R) (vs.map Rl.R))) ∧ Below w.heap.size w w' := by
  have HA : Hid (∀ W, Below w.heap.size w W → RecsAt W ao n us) := fun W hW => ha.below hW
  have HB : Hid (∀ W, Below w.heap.size w W → RecsAt W bo m vs) := fun W hW => hb.below hW
  have HLa : Hid (us.length = n) := ha.length
  have HLb : Hid (vs.length = m) := hb.length
  have h1 := ha.short
  have h2 := hb.short
  unfold maxLen at h1 h2
  clear ha hb
  generalize hZ : alikeB (us.map Rl.R) (vs.map Rl.R) = Z
  have HZ : Hid (alikeB (us.map Rl.R) (vs.map Rl.R) = Z) := hZ
  clear hZ
  by_cases hnm : n = m
  case neg =>
    have hd : ((n : Int) != (m : Int)) = true := by rw [bne_iff_ne]; omega
    go_enter Tryz.func25, Tryz.ntmps25
    go_wp2
    go_ret
    exact ⟨ret_bool (by rw [← HZ.out]; exact (alikeB_not (fun e => hnm (by have := congrArg List.length e; rw [List.length_map, List.length_map] at this; rw [← HLa.out, ← HLb.out, this]))).symm), Below.refl _ _⟩
  subst hnm
  have hd : ((n : Int) != (n : Int)) = false := by simp
  go_enter Tryz.func25, Tryz.ntmps25
  go_wp2_with fail
  go_loopw [5] (fun i wr => ∃ k : Nat, k ≤ n ∧ i = .int .i64 k ∧ (us.map Rl.R).take k = (vs.map Rl.R).take k ∧ Below w.heap.size w wr) (fun i _ => n - (intOf i).toNat)
  case atStart => exact ⟨0, Nat.zero_le _, rfl, by simp, Below.refl _ _⟩
  case round =>
    obtain ⟨k, hk, rfl, heq, hbel⟩ := hrel
    have HE : Hid ((us.map Rl.R).take k = (vs.map Rl.R).take k) := heq
    have HW : Hid (Below w.heap.size w wr) := hbel
    clear heq hd hbel
    by_cases hlt : k < n
    · obtain ⟨b1, o1, rfl, _⟩ := (HA.out _ HW.out).cells (by omega)
      obtain ⟨b2, o2, rfl, _⟩ := (HB.out _ HW.out).cells (by omega)
      obtain ⟨⟨⟨ynm, ym, yrf, yp, yao, ylen, ycap, yb, yq, ys⟩, yl⟩, hq⟩ : ∃ y, us[k]? = some y := ⟨_, List.getElem?_eq_getElem (by rw [HLa.out]; exact hlt)⟩
      obtain ⟨⟨⟨znm, zm, zrf, zp, zao, zlen, zcap, zb, zq, zs⟩, zl⟩, hp⟩ : ∃ z, vs[k]? = some z := ⟨_, List.getElem?_eq_getElem (by rw [HLb.out]; exact hlt)⟩
      have HC : Hid (∀ W, Below w.heap.size w W → W.cell? ⟨b1, o1 + k * 8, none⟩ = some (.string ynm) ∧ W.cell? ⟨b1, o1 + k * 8 + 1, none⟩ = some (.bool ym) ∧ W.cell? ⟨b1, o1 + k * 8 + 2, none⟩ = some (.string yrf) ∧ W.cell? ⟨b1, o1 + k * 8 + 3, none⟩ = some (.int .i64 yp) ∧ W.cell? ⟨b1, o1 + k * 8 + 4, none⟩ = some (.slice yao ylen ycap) ∧ W.cell? ⟨b1, o1 + k * 8 + 5, none⟩ = some (.string yb) ∧ W.cell? ⟨b1, o1 + k * 8 + 6, none⟩ = some (.string yq) ∧ W.cell? ⟨b1, o1 + k * 8 + 7, none⟩ = some (.int .i64 ys) ∧ W.cell? ⟨b2, o2 + k * 8, none⟩ = some (.string znm) ∧ W.cell? ⟨b2, o2 + k * 8 + 1, none⟩ = some (.bool zm) ∧ W.cell? ⟨b2, o2 + k * 8 + 2, none⟩ = some (.string zrf) ∧ W.cell? ⟨b2, o2 + k * 8 + 3, none⟩ = some (.int .i64 zp) ∧ W.cell? ⟨b2, o2 + k * 8 + 4, none⟩ = some (.slice zao zlen zcap) ∧ W.cell? ⟨b2, o2 + k * 8 + 5, none⟩ = some (.string zb) ∧ W.cell? ⟨b2, o2 + k * 8 + 6, none⟩ = some (.string zq) ∧ W.cell? ⟨b2, o2 + k * 8 + 7, none⟩ = some (.int .i64 zs)) := by
        intro W hW
        obtain ⟨b', o', e, hcs⟩ := (HA.out _ hW).cells (by omega)
        cases e
        obtain ⟨x0, x1, x2, x3, x4, x5, x6, x7⟩ := hcs k _ hq
        obtain ⟨b', o', e, hcs⟩ := (HB.out _ hW).cells (by omega)
        cases e
        obtain ⟨y0, y1, y2, y3, y4, y5, y6, y7⟩ := hcs k _ hp
        exact ⟨x0, x1, x2, x3, x4, x5, x6, x7, y0, y1, y2, y3, y4, y5, y6, y7⟩
      have HSm : Hid (∀ W, Hid (Below w.heap.size w W) → Calls Tryz.prog 17 #[.agg #[.string ynm, .bool ym, .string yrf, .int .i64 yp, .slice yao ylen ycap, .string yb, .string yq, .int .i64 ys], .agg #[.string znm, .bool zm, .string zrf, .int .i64 zp, .slice zao zlen zcap, .string zb, .string zq, .int .i64 zs]] W fun e w' => e = .returned (.bool (sameB (RV.R ⟨ynm, ym, yrf, yp, yao, ylen, ycap, yb, yq, ys⟩ yl) (RV.R ⟨znm, zm, zrf, zp, zao, zlen, zcap, zb, zq, zs⟩ zl))) ∧ Hid (Below w.heap.size w w') ∧ (w'.cell? ⟨b1, o1 + k * 8, none⟩ = some (.string ynm) ∧ w'.cell? ⟨b1, o1 + k * 8 + 1, none⟩ = some (.bool ym) ∧ w'.cell? ⟨b1, o1 + k * 8 + 2, none⟩ = some (.string yrf) ∧ w'.cell? ⟨b1, o1 + k * 8 + 3, none⟩ = some (.int .i64 yp) ∧ w'.cell? ⟨b1, o1 + k * 8 + 4, none⟩ = some (.slice yao ylen ycap) ∧ w'.cell? ⟨b1, o1 + k * 8 + 5, none⟩ = some (.string yb) ∧ w'.cell? ⟨b1, o1 + k * 8 + 6, none⟩ = some (.string yq) ∧ w'.cell? ⟨b1, o1 + k * 8 + 7, none⟩ = some (.int .i64 ys) ∧ w'.cell? ⟨b2, o2 + k * 8, none⟩ = some (.string znm) ∧ w'.cell? ⟨b2, o2 + k * 8 + 1, none⟩ = some (.bool zm) ∧ w'.cell? ⟨b2, o2 + k * 8 + 2, none⟩ = some (.string zrf) ∧ w'.cell? ⟨b2, o2 + k * 8 + 3, none⟩ = some (.int .i64 zp) ∧ w'.cell? ⟨b2, o2 + k * 8 + 4, none⟩ = some (.slice zao zlen zcap) ∧ w'.cell? ⟨b2, o2 + k * 8 + 5, none⟩ = some (.string zb) ∧ w'.cell? ⟨b2, o2 + k * 8 + 6, none⟩ = some (.string zq) ∧ w'.cell? ⟨b2, o2 + k * 8 + 7, none⟩ = some (.int .i64 zs))) := by
        intro W hW
        refine (sameR_calls ⟨ynm, ym, yrf, yp, yao, ylen, ycap, yb, yq, ys⟩ ⟨znm, zm, zrf, zp, zao, zlen, zcap, zb, zq, zs⟩ yl zl W ((HA.out _ hW.out).fine _ (List.mem_of_getElem? hq)) ((HB.out _ hW.out).fine _ (List.mem_of_getElem? hp))).mono ?_
        rintro e w' ⟨rfl, hb⟩
        have h2 : Below w.heap.size w w' := hW.out.trans (hb.mono hW.out.size)
        exact ⟨rfl, h2, HC.out _ h2⟩
      have HQ : Hid ((us.map Rl.R)[k]? = some (RV.R ⟨ynm, ym, yrf, yp, yao, ylen, ycap, yb, yq, ys⟩ yl) ∧ (vs.map Rl.R)[k]? = some (RV.R ⟨znm, zm, zrf, zp, zao, zlen, zcap, zb, zq, zs⟩ zl)) := by
        show _ ∧ _
        rw [List.getElem?_map, hq, List.getElem?_map, hp]; exact ⟨rfl, rfl⟩
      have HJ0 : Hid (Below w.heap.size w wr.drew) := HW.out.drew
      have HS0 : Hid (wr.drew.cell? ⟨b1, o1 + k * 8, none⟩ = some (.string ynm) ∧ wr.drew.cell? ⟨b1, o1 + k * 8 + 1, none⟩ = some (.bool ym) ∧ wr.drew.cell? ⟨b1, o1 + k * 8 + 2, none⟩ = some (.string yrf) ∧ wr.drew.cell? ⟨b1, o1 + k * 8 + 3, none⟩ = some (.int .i64 yp) ∧ wr.drew.cell? ⟨b1, o1 + k * 8 + 4, none⟩ = some (.slice yao ylen ycap) ∧ wr.drew.cell? ⟨b1, o1 + k * 8 + 5, none⟩ = some (.string yb) ∧ wr.drew.cell? ⟨b1, o1 + k * 8 + 6, none⟩ = some (.string yq) ∧ wr.drew.cell? ⟨b1, o1 + k * 8 + 7, none⟩ = some (.int .i64 ys) ∧ wr.drew.cell? ⟨b2, o2 + k * 8, none⟩ = some (.string znm) ∧ wr.drew.cell? ⟨b2, o2 + k * 8 + 1, none⟩ = some (.bool zm) ∧ wr.drew.cell? ⟨b2, o2 + k * 8 + 2, none⟩ = some (.string zrf) ∧ wr.drew.cell? ⟨b2, o2 + k * 8 + 3, none⟩ = some (.int .i64 zp) ∧ wr.drew.cell? ⟨b2, o2 + k * 8 + 4, none⟩ = some (.slice zao zlen zcap) ∧ wr.drew.cell? ⟨b2, o2 + k * 8 + 5, none⟩ = some (.string zb) ∧ wr.drew.cell? ⟨b2, o2 + k * 8 + 6, none⟩ = some (.string zq) ∧ wr.drew.cell? ⟨b2, o2 + k * 8 + 7, none⟩ = some (.int .i64 zs)) := HC.out _ HJ0.out
      have hdk : decide ((k : Int) < (n : Int)) = true := by simp; omega
      have hkn : (k : Int) < (n : Int) := by omega
      clear hq hp HC
      by_cases he : RV.R ⟨ynm, ym, yrf, yp, yao, ylen, ycap, yb, yq, ys⟩ yl = RV.R ⟨znm, zm, zrf, zp, zao, zlen, zcap, zb, zq, zs⟩ zl
      · have HN : Hid ((us.map Rl.R).take (k + 1) = (vs.map Rl.R).take (k + 1)) := takes_next HQ.out.1 HQ.out.2 HE.out he
        rw [sameB_of he] at HSm
        clear he HQ
        go_wp2_with fail
        go_region_held3 (fun W => W.cell? ⟨b1, o1 + k * 8, none⟩ = some (.string ynm) ∧ W.cell? ⟨b1, o1 + k * 8 + 1, none⟩ = some (.bool ym) ∧ W.cell? ⟨b1, o1 + k * 8 + 2, none⟩ = some (.string yrf) ∧ W.cell? ⟨b1, o1 + k * 8 + 3, none⟩ = some (.int .i64 yp) ∧ W.cell? ⟨b1, o1 + k * 8 + 4, none⟩ = some (.slice yao ylen ycap) ∧ W.cell? ⟨b1, o1 + k * 8 + 5, none⟩ = some (.string yb) ∧ W.cell? ⟨b1, o1 + k * 8 + 6, none⟩ = some (.string yq) ∧ W.cell? ⟨b1, o1 + k * 8 + 7, none⟩ = some (.int .i64 ys) ∧ W.cell? ⟨b2, o2 + k * 8, none⟩ = some (.string znm) ∧ W.cell? ⟨b2, o2 + k * 8 + 1, none⟩ = some (.bool zm) ∧ W.cell? ⟨b2, o2 + k * 8 + 2, none⟩ = some (.string zrf) ∧ W.cell? ⟨b2, o2 + k * 8 + 3, none⟩ = some (.int .i64 zp) ∧ W.cell? ⟨b2, o2 + k * 8 + 4, none⟩ = some (.slice zao zlen zcap) ∧ W.cell? ⟨b2, o2 + k * 8 + 5, none⟩ = some (.string zb) ∧ W.cell? ⟨b2, o2 + k * 8 + 6, none⟩ = some (.string zq) ∧ W.cell? ⟨b2, o2 + k * 8 + 7, none⟩ = some (.int .i64 zs)) (first | with_reducible assumption | with_reducible exact HS0.out) (first | (go_at_call 17; refine (HSm.out _ (by with_reducible assumption)).mono ?_; rintro e w1 ⟨rfl, HB1, hS1⟩))
        clear hS1 HS0 HJ0 HSm
        go_wp2
        go_roundw
        case rel => exact ⟨k + 1, by omega, by go_num, HN.out, HB1.out⟩
        case measure => simp [intOf]; omega
      · have HN : Hid (¬ us.map Rl.R = vs.map Rl.R) := takes_not HQ.out.1 HQ.out.2 he
        rw [sameB_not he] at HSm
        clear he HQ
        go_wp2_with fail
        go_region_held3 (fun W => W.cell? ⟨b1, o1 + k * 8, none⟩ = some (.string ynm) ∧ W.cell? ⟨b1, o1 + k * 8 + 1, none⟩ = some (.bool ym) ∧ W.cell? ⟨b1, o1 + k * 8 + 2, none⟩ = some (.string yrf) ∧ W.cell? ⟨b1, o1 + k * 8 + 3, none⟩ = some (.int .i64 yp) ∧ W.cell? ⟨b1, o1 + k * 8 + 4, none⟩ = some (.slice yao ylen ycap) ∧ W.cell? ⟨b1, o1 + k * 8 + 5, none⟩ = some (.string yb) ∧ W.cell? ⟨b1, o1 + k * 8 + 6, none⟩ = some (.string yq) ∧ W.cell? ⟨b1, o1 + k * 8 + 7, none⟩ = some (.int .i64 ys) ∧ W.cell? ⟨b2, o2 + k * 8, none⟩ = some (.string znm) ∧ W.cell? ⟨b2, o2 + k * 8 + 1, none⟩ = some (.bool zm) ∧ W.cell? ⟨b2, o2 + k * 8 + 2, none⟩ = some (.string zrf) ∧ W.cell? ⟨b2, o2 + k * 8 + 3, none⟩ = some (.int .i64 zp) ∧ W.cell? ⟨b2, o2 + k * 8 + 4, none⟩ = some (.slice zao zlen zcap) ∧ W.cell? ⟨b2, o2 + k * 8 + 5, none⟩ = some (.string zb) ∧ W.cell? ⟨b2, o2 + k * 8 + 6, none⟩ = some (.string zq) ∧ W.cell? ⟨b2, o2 + k * 8 + 7, none⟩ = some (.int .i64 zs)) (first | with_reducible assumption | with_reducible exact HS0.out) (first | (go_at_call 17; refine (HSm.out _ (by with_reducible assumption)).mono ?_; rintro e w1 ⟨rfl, HB1, hS1⟩))
        clear hS1 HS0 HJ0 HSm
        go_wp2
        go_ret
        exact ⟨ret_bool (by rw [← HZ.out]; exact (alikeB_not HN.out).symm), HB1.out⟩
    · have hdk : decide ((k : Int) < (n : Int)) = false := by simp; omega
      have HN : Hid (us.map Rl.R = vs.map Rl.R) := by
        have h := HE.out
        rw [List.take_of_length_le (by rw [List.length_map, HLa.out]; omega), List.take_of_length_le (by rw [List.length_map, HLb.out]; omega)] at h
        exact h
      go_wp2
      go_ret
      exact ⟨ret_bool (by rw [← HZ.out]; exact (alikeB_of HN.out).symm), HW.out⟩
end Go.Proofs.YtdhphipdpjhhbaaGreatDoor
