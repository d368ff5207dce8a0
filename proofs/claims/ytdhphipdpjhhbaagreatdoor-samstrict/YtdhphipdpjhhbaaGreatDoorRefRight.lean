/-
  The walk of the document's own Right.
-/
import Derived.Test.YtdhphipdpjhhbaaGreatDoorRight
namespace Go.Proofs.YtdhphipdpjhhbaaGreatDoor
open Go.RowKit

/-- Which of the Ops a byte is. -/
theorem op_cases (c : UInt8) : ((((c.toNat : Int) == 77) = true ∨ (((c.toNat : Int) == 77) = false ∧ ((c.toNat : Int) == 68) = true) ∨ (((c.toNat : Int) == 77) = false ∧ ((c.toNat : Int) == 68) = false ∧ ((c.toNat : Int) == 73) = true)) ∧ isOpB c = true ∧ c ≠ 83) ∨
    (((c.toNat : Int) == 77) = false ∧ ((c.toNat : Int) == 68) = false ∧ ((c.toNat : Int) == 73) = false ∧ ((((c.toNat : Int) == 83) = true ∧ isOpB c = true ∧ c = 83) ∨ (((c.toNat : Int) == 83) = false ∧ isOpB c = false))) := by
  have e := isOpI_byte c
  unfold isOpI isColI at e
  have h83 : ((c.toNat : Int) == 83) = true → c = 83 := fun h => UInt8.toNat_inj.1 (by simp at h; show c.toNat = 83; omega)
  have h83' : c = 83 → ((c.toNat : Int) == 83) = true := fun h => by rw [h]; rfl
  have hx : ∀ n : Int, n ≠ 83 → ((c.toNat : Int) == n) = true → c ≠ 83 := fun n hn h e => by subst e; simp at h; exact hn h.symm
  rw [← e]
  cases h1 : ((c.toNat : Int) == 77)
  · cases h2 : ((c.toNat : Int) == 68)
    · cases h3 : ((c.toNat : Int) == 73)
      · cases h4 : ((c.toNat : Int) == 83)
        · exact .inr ⟨rfl, rfl, rfl, .inr ⟨rfl, rfl⟩⟩
        · exact .inr ⟨rfl, rfl, rfl, .inl ⟨rfl, rfl, h83 h4⟩⟩
      · exact .inl ⟨.inr (.inr ⟨rfl, rfl, rfl⟩), rfl, hx 73 (by decide) h3⟩
    · exact .inl ⟨.inr (.inl ⟨rfl, rfl⟩), by simp, hx 68 (by decide) h2⟩
  · exact .inl ⟨.inl rfl, by simp, hx 77 (by decide) h1⟩

set_option maxHeartbeats 8000000 in
theorem refRight_calls (ao : Option Addr) (len cap : Nat) (l : List Rn) (w : World) (hz : RnsAt w ao len l) :
    Calls Tryz.prog 58 #[.slice ao len cap] w fun e w' => e = .returned (.bool (rightB l)) ∧ Below w.heap.size w w' := by
  have hlm := hz.short
  unfold maxLen at hlm
  have HZL : Hid (l.length = len) := hz.length
  have HZ : Hid (RnsAt w ao len l) := hz
  clear hz
  go_enter Tryz.func58, Tryz.ntmps58
  go_wp2
  go_loopw [3, 4] (fun c i wr => ∃ (k : Nat) (left : Int), k ≤ len ∧ i = .int .i64 k ∧ c = .int .i64 left ∧ left ≤ 131072 ∧ 0 ≤ left ∧ Hid (rgo (prevOf l k) left (l.drop k) = rightB l) ∧ Below w.heap.size w wr) (fun _ i _ => len - (intOf i).toNat)
  case atStart => exact ⟨0, 131072, Nat.zero_le _, rfl, rfl, by omega, by omega, rfl, Below.refl _ _⟩
  case round =>
    obtain ⟨k, left, hk, rfl, rfl, hleft, hleft0, HI, hbel⟩ := hrel
    have HB : Hid (Below w.heap.size w wr) := hbel
    clear hbel
    by_cases hlt : k < len
    · have hdk : decide ((k : Int) < (len : Int)) = true := by simp; omega
      obtain ⟨b, off, rfl, hcs⟩ := (HZ.out.below HB.out).cells (by omega)
      obtain ⟨r, hr⟩ : ∃ r, l[k]? = some r := ⟨_, List.getElem?_eq_getElem (by rw [HZL.out]; exact hlt)⟩
      obtain ⟨hc1, hc2⟩ := hcs k r hr
      have hfit := HZ.out.fits r (List.mem_of_getElem? hr)
      unfold fitI at hfit
      have HR : Hid (l[k]? = some r) := hr
      have hu := UInt8.toNat_lt r.1
      have HBo : Hid (∀ o n, Below w.heap.size w ((wr.alloc o).drewN n)) := fun o n => below_drewN (HB.out.alloc HB.out.size o) n
      have HNo : Hid (stepR (prevOf l k) left r (decide (k + 1 = l.length)) = none → rightB l = false) := fun hs => by rw [← HI.out, rgo_no HR.out hs]
      have HYes : Hid (∀ {left'}, stepR (prevOf l k) left r (decide (k + 1 = l.length)) = some left' → rgo (prevOf l (k + 1)) left' (l.drop (k + 1)) = rightB l) := fun hs => by rw [rgo_yes HR.out hs]; exact HI.out
      clear hr HI
      by_cases hlow : r.2 < 1
      · have hd1 : decide (r.2 < 1) = true := by simp; omega
        have HE : Hid (rightB l = false) := HNo.out (stepR_bad (.inr (.inl hlow)))
        clear hcs HZ HNo HYes
        go_wp2_with fail
        go_quiet (fail)
        go_wp2
        go_ret
        exact ⟨ret_bool HE.out.symm, HBo.out _ _⟩
      have hd1 : decide (r.2 < 1) = false := by simp; omega
      rcases Nat.eq_zero_or_pos k with hk0_ | hk0
      · have HK0 : Hid (k = 0) := hk0_
        clear hk0_
        have HP : Hid (prevOf l k ≠ some r.1) := fun e => by rw [HK0.out] at e; simp [prevOf] at e
        have HQ : Hid (prevOf l k = none) := by show _ = _; rw [HK0.out]; rfl
        have hdk0 : decide ((0 : Int) < (k : Int)) = false := by have := HK0.out; simp; omega
        have hdk1 : decide (0 < k) = false := by have := HK0.out; simp; omega
        clear hcs HZ
        go_wp2_with fail
        go_quiet (fail)
        rcases op_cases r.1 with ⟨hcc, hop, h83⟩ | ⟨h1, h2, h3, ⟨h4, hop, h83⟩ | ⟨h4, hop⟩⟩
        · by_cases hbig : left < r.2
          · have hb := (show decide (left < r.2) = true by simp; omega)
            have HE : Hid (rightB l = false) := HNo.out (stepR_M_bad h83 hbig)
            clear h83 hbig hop
            rcases hcc with h1 | ⟨h1, h2⟩ | ⟨h1, h2, h3⟩ <;> (
              go_wp2
              go_ret
              exact ⟨ret_bool HE.out.symm, HBo.out _ _⟩)
          · have hb := (show decide (left < r.2) = false by simp; omega)
            have HE : Hid (rgo (prevOf l (k + 1)) (left - r.2) (l.drop (k + 1)) = rightB l) := HYes.out (stepR_M hop (by omega) HP.out h83 hbig)
            clear h83 hop
            rcases hcc with h1 | ⟨h1, h2⟩ | ⟨h1, h2, h3⟩ <;> (
              go_wp2
              go_roundw
              case rel => exact ⟨k + 1, left - r.2, by omega, by go_num, by go_num, by omega, by omega, HE.out, HBo.out _ _⟩
              case measure => simp [intOf]; omega)
        · by_cases hbig : 65536 < r.2
          · have hb := (show decide ((65536 : Int) < r.2) = true by simp; omega)
            have HE : Hid (rightB l = false) := HNo.out (stepR_S_bad h83 (.inl hbig))
            clear h83 hbig hop
            go_wp2
            go_ret
            exact ⟨ret_bool HE.out.symm, HBo.out _ _⟩
          · have hb := (show decide ((65536 : Int) < r.2) = false by simp; omega)
            have HE : Hid (rgo (prevOf l (k + 1)) left (l.drop (k + 1)) = rightB l) := HYes.out (stepR_S hop (by omega) HP.out h83 hbig (.inl HQ.out))
            clear h83 hbig hop
            go_wp2
            go_roundw
            case rel => exact ⟨k + 1, left, by omega, by go_num, by go_num, by omega, by omega, HE.out, HBo.out _ _⟩
            case measure => simp [intOf]; omega
        · have HE : Hid (rightB l = false) := HNo.out (stepR_bad (.inl hop))
          clear hop
          go_wp2
          go_ret
          exact ⟨ret_bool HE.out.symm, HBo.out _ _⟩
      · obtain ⟨j, rfl⟩ : ∃ j, k = j + 1 := ⟨k - 1, by omega⟩
        have hdk0 : decide ((0 : Int) < (j : Int) + 1) = true := by simp <;> omega
        obtain ⟨q, hq⟩ : ∃ q, l[j]? = some q := ⟨_, List.getElem?_eq_getElem (by rw [HZL.out]; omega)⟩
        have hpq := (hcs j q hq).1
        have HPv : Hid (prevOf l (j + 1) = some q.1) := prevOf_succ hq
        have hjl : (j : Int) < (len : Int) := by omega
        have hblt : b < wr.heap.size := World.block_lt_of_cell? wr _ hpq
        have hbne : ¬ b = wr.heap.size := by omega
        have hpq2 : ∀ o, (wr.alloc o).cell? ⟨b, off + j * 2, none⟩ = some (.int .u8 (q.1.toNat : Int)) := fun o => by rw [((Below.refl wr.heap.size wr).alloc (Nat.le_refl _) o).cell hblt]; exact hpq
        have hwj : IntKind.i64.wrap (j : Int) = (j : Int) := by rw [IntKind.wrap_i64]; omega
        have hj1 : (j : Int) + 1 < (len : Int) := by omega
        clear hq hcs HZ
        by_cases hpr : q.1 = r.1
        · have hdq : ((q.1.toNat : Int) == (r.1.toNat : Int)) = true := by rw [hpr]; simp
          have HE : Hid (rightB l = false) := HNo.out (stepR_bad (.inr (.inr (by rw [HPv.out, hpr]))))
          clear HNo HYes hpr
          go_wp2_with fail
          go_quiet (fail)
          go_wp2
          go_ret
          exact ⟨ret_bool HE.out.symm, HBo.out _ _⟩
        have hdq : ((q.1.toNat : Int) == (r.1.toNat : Int)) = false := nat_byte hpr
        have HP : Hid (prevOf l (j + 1) ≠ some r.1) := fun e => by rw [HPv.out] at e; exact hpr (Option.some.inj e)
        have HQ : Hid (prevOf l (j + 1) ≠ none) := fun e => by rw [HPv.out] at e; cases e
        clear hpr
        go_wp2_with fail
        go_quiet (fail)
        rcases op_cases r.1 with ⟨hcc, hop, h83⟩ | ⟨h1, h2, h3, ⟨h4, hop, h83⟩ | ⟨h4, hop⟩⟩
        · by_cases hbig : left < r.2
          · have hb := (show decide (left < r.2) = true by simp; omega)
            have HE : Hid (rightB l = false) := HNo.out (stepR_M_bad h83 hbig)
            clear h83 hbig hop
            rcases hcc with h1 | ⟨h1, h2⟩ | ⟨h1, h2, h3⟩ <;> (
              go_wp2
              go_ret
              exact ⟨ret_bool HE.out.symm, HBo.out _ _⟩)
          · have hb := (show decide (left < r.2) = false by simp; omega)
            have HE : Hid (rgo (prevOf l (j + 1 + 1)) (left - r.2) (l.drop (j + 1 + 1)) = rightB l) := HYes.out (stepR_M hop (by omega) HP.out h83 hbig)
            clear h83 hop
            rcases hcc with h1 | ⟨h1, h2⟩ | ⟨h1, h2, h3⟩ <;> (
              go_wp2
              go_roundw
              case rel => exact ⟨j + 1 + 1, left - r.2, by omega, by go_num, by go_num, by omega, by omega, HE.out, HBo.out _ _⟩
              case measure => simp [intOf]; omega)
        · by_cases hbig : 65536 < r.2
          · have hb := (show decide ((65536 : Int) < r.2) = true by simp; omega)
            have HE : Hid (rightB l = false) := HNo.out (stepR_S_bad h83 (.inl hbig))
            clear h83 hbig hop
            go_wp2
            go_ret
            exact ⟨ret_bool HE.out.symm, HBo.out _ _⟩
          · have hb := (show decide ((65536 : Int) < r.2) = false by simp; omega)
            by_cases hmid : j + 1 + 1 < len
            · have hm : decide ((j : Int) + 1 < (len : Int) - 1) = true := by simp; omega
              have HE : Hid (rightB l = false) := HNo.out (stepR_S_bad h83 (.inr ⟨HQ.out, by simp [HZL.out]; omega⟩))
              clear h83 hbig hop
              go_wp2
              go_ret
              exact ⟨ret_bool HE.out.symm, HBo.out _ _⟩
            · have hm : decide ((j : Int) + 1 < (len : Int) - 1) = false := by simp; omega
              have HE : Hid (rgo (prevOf l (j + 1 + 1)) left (l.drop (j + 1 + 1)) = rightB l) := HYes.out (stepR_S hop (by omega) HP.out h83 hbig (.inr (by simp [HZL.out]; omega)))
              clear h83 hbig hop
              go_wp2
              go_roundw
              case rel => exact ⟨j + 1 + 1, left, by omega, by go_num, by go_num, by omega, by omega, HE.out, HBo.out _ _⟩
              case measure => simp [intOf]; omega
        · have HE : Hid (rightB l = false) := HNo.out (stepR_bad (.inl hop))
          clear hop
          go_wp2
          go_ret
          exact ⟨ret_bool HE.out.symm, HBo.out _ _⟩
    · have hdk : decide ((k : Int) < (len : Int)) = false := by simp; omega
      have HE : Hid (rightB l = true) := by
        show _ = _
        rw [← HI.out, List.drop_of_length_le (by rw [HZL.out]; omega)]; rfl
      clear HI
      go_wp2
      go_ret
      exact ⟨ret_bool HE.out.symm, HB.out⟩
end Go.Proofs.YtdhphipdpjhhbaaGreatDoor
