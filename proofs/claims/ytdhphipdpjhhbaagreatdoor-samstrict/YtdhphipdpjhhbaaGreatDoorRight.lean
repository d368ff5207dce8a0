/-
  The walk of cigar.areRight.
-/
import Derived.Test.YtdhphipdpjhhbaaGreatDoorOf
namespace Go.Proofs.YtdhphipdpjhhbaaGreatDoor
open Go.RowKit

def prevOf (l : List Rn) (k : Nat) : Option UInt8 := if k = 0 then none else l[k - 1]?.map (·.1)
theorem prevOf_succ {l : List Rn} {k : Nat} {r : Rn} (h : l[k]? = some r) : prevOf l (k + 1) = some r.1 := by
  unfold prevOf; simp [h]
theorem rgo_at {l : List Rn} {k : Nat} {r : Rn} (h : l[k]? = some r) (p : Option UInt8) (left : Int) :
    rgo p left (l.drop k) = match stepR p left r (decide (k + 1 = l.length)) with
      | none => false
      | some left' => rgo (some r.1) left' (l.drop (k + 1)) := by
  obtain ⟨hlt, he⟩ := List.getElem?_eq_some_iff.1 h
  rw [List.drop_eq_getElem_cons hlt, he]
  have e : decide (l.drop (k + 1) = []) = decide (k + 1 = l.length) := by
    rw [Bool.eq_iff_iff]; simp; omega
  simp only [rgo, e]
  cases stepR p left r (decide (k + 1 = l.length)) <;> rfl
theorem rgo_no {l : List Rn} {k : Nat} {r : Rn} (h : l[k]? = some r) {p : Option UInt8} {left : Int} (hs : stepR p left r (decide (k + 1 = l.length)) = none) : rgo p left (l.drop k) = false := by
  rw [rgo_at h, hs]
theorem rgo_yes {l : List Rn} {k : Nat} {r : Rn} (h : l[k]? = some r) {left left' : Int} (hs : stepR (prevOf l k) left r (decide (k + 1 = l.length)) = some left') : rgo (prevOf l (k + 1)) left' (l.drop (k + 1)) = rgo (prevOf l k) left (l.drop k) := by
  rw [rgo_at h, hs, prevOf_succ h]
section
variable {p : Option UInt8} {left : Int} {r : Rn} {last : Bool}
theorem stepR_bad (h : isOpB r.1 = false ∨ r.2 < 1 ∨ p = some r.1) : stepR p left r last = none := by unfold stepR; rw [if_pos h]
theorem stepR_S_bad (h8 : r.1 = 83) (h : 65536 < r.2 ∨ (p ≠ none ∧ last = false)) : stepR p left r last = none := by
  unfold stepR
  split
  · rfl
  · first | rfl | rw [if_pos h8, if_pos h]
theorem stepR_M_bad (h8 : r.1 ≠ 83) (h : left < r.2) : stepR p left r last = none := by
  unfold stepR
  split
  · rfl
  · first | rfl | rw [if_neg h8, if_pos h]
theorem stepR_S (h1 : isOpB r.1 = true) (h2 : ¬ r.2 < 1) (h3 : p ≠ some r.1) (h8 : r.1 = 83) (h : ¬ 65536 < r.2) (hm : p = none ∨ last = true) : stepR p left r last = some left := by
  unfold stepR
  rw [if_neg (by rw [h1]; simp; exact ⟨by omega, h3⟩), if_pos h8, if_neg]
  rintro (h' | ⟨h', h''⟩)
  · exact h h'
  · rcases hm with hm | hm
    · exact h' hm
    · rw [hm] at h''; cases h''
theorem stepR_M (h1 : isOpB r.1 = true) (h2 : ¬ r.2 < 1) (h3 : p ≠ some r.1) (h8 : r.1 ≠ 83) (h : ¬ left < r.2) : stepR p left r last = some (left - r.2) := by
  unfold stepR
  rw [if_neg (by rw [h1]; simp; exact ⟨by omega, h3⟩), if_neg h8, if_neg h]
end
theorem nat_byte {a b : UInt8} (h : a ≠ b) : ((a.toNat : Int) == (b.toNat : Int)) = false := by
  simp only [beq_eq_false_iff_ne, ne_eq]
  exact fun e => h (UInt8.toNat_inj.1 (by omega))
theorem is83 {a : UInt8} (h : a = 83) : ((a.toNat : Int) == 83) = true := by subst h; rfl
theorem not83 {a : UInt8} (h : a ≠ 83) : ((a.toNat : Int) == 83) = false := nat_byte h

set_option maxHeartbeats 8000000 in
theorem areRight_calls (ao : Option Addr) (len cap : Nat) (l : List Rn) (w : World) (hz : RnsAt w ao len l) :
    Calls Tryz.prog 83 #[.slice ao len cap] w fun e w' => e = .returned (.bool (rightB l)) ∧ Below w.heap.size w w' := by
  have hlm := hz.short
  unfold maxLen at hlm
  have HZL : Hid (l.length = len) := hz.length
  have HZ : Hid (RnsAt w ao len l) := hz
  clear hz
  go_enter Tryz.func83, Tryz.ntmps83
  go_wp2
  go_loopw [3, 8] (fun c i wr => ∃ (k : Nat) (left : Int), k ≤ len ∧ i = .int .i64 k ∧ c = .int .i64 left ∧ left ≤ 131072 ∧ 0 ≤ left ∧ Hid (rgo (prevOf l k) left (l.drop k) = rightB l) ∧ Below w.heap.size w wr) (fun _ i _ => len - (intOf i).toNat)
  case atStart => exact ⟨0, 131072, Nat.zero_le _, rfl, rfl, by omega, by omega, rfl, Below.refl _ _⟩
  case round =>
    obtain ⟨k, left, hk, rfl, rfl, hleft, hleft0, HI, hbel⟩ := hrel
    have HB : Hid (Below w.heap.size w wr) := hbel
    clear hbel
    by_cases hlt : k < len
    · have hdk : decide ((k : Int) < (len : Int)) = true := by simp; omega
      obtain ⟨b, off, rfl, hcs⟩ := (HZ.out.below HB.out).cells (by omega)
      obtain ⟨r, hr⟩ : ∃ r, l[k]? = some r := ⟨_, List.getElem?_eq_getElem (by rw [HZL.out]; exact hlt)⟩
      obtain ⟨hc1, hc2⟩ := hcs k r hr
      have hfit := HZ.out.fits r (List.mem_of_getElem? hr)
      unfold fitI at hfit
      have HR : Hid (l[k]? = some r) := hr
      have hu := UInt8.toNat_lt r.1
      have HBo : Hid (∀ o n, Below w.heap.size w ((wr.alloc o).drewN n)) := fun o n => below_drewN (HB.out.alloc HB.out.size o) n
      have HBp : Hid (∀ o, Below w.heap.size w (wr.alloc o)) := fun o => (HB.out.alloc HB.out.size o)
      have HNo : Hid (stepR (prevOf l k) left r (decide (k + 1 = l.length)) = none → rightB l = false) := fun hs => by rw [← HI.out, rgo_no HR.out hs]
      clear hr
      cases hop : isOpB r.1 with
      | false =>
        have HE : Hid (rightB l = false) := HNo.out (stepR_bad (.inl hop))
        have hI : isOpI (r.1.toNat : Int) = false := by rw [isOpI_byte]; exact hop
        have HC : Hid (∀ w, Calls Tryz.prog 100 #[.int .i32 (r.1.toNat : Int)] w fun e w' => e = .returned (.bool false) ∧ w' = w) := fun w => by rw [← hI]; exact isOp_calls _ w
        clear hcs HZ hop hI HNo
        go_wp2_with fail
        go_quiet ((go_at_call 100; exact Calls.quiet_of_same (HC.out _)))
        go_wp2
        go_ret
        exact ⟨ret_bool HE.out.symm, HBo.out _ _⟩
      | true =>
        have hI : isOpI (r.1.toNat : Int) = true := by rw [isOpI_byte]; exact hop
        have HC : Hid (∀ w, Calls Tryz.prog 100 #[.int .i32 (r.1.toNat : Int)] w fun e w' => e = .returned (.bool true) ∧ w' = w) := fun w => by rw [← hI]; exact isOp_calls _ w
        have HC2 : Hid (∀ w, Calls Tryz.prog 100 #[.int .i32 (IntKind.i32.wrap (r.1.toNat : Int))] w fun e w' => e = .returned (.bool true) ∧ w' = w) := by
          have e : IntKind.i32.wrap (r.1.toNat : Int) = (r.1.toNat : Int) := by rw [IntKind.wrap_i32]; omega
          rw [e]; exact HC
        by_cases hlow : r.2 < 1
        · have hd1 : decide (r.2 < 1) = true := by simp; omega
          have HE : Hid (rightB l = false) := HNo.out (stepR_bad (.inr (.inl hlow)))
          clear hcs HZ hop hI HNo
          go_wp2_with fail
          go_quiet ((go_at_call 100; exact Calls.quiet_of_same (HC.out _)))
          go_wp2
          go_ret
          exact ⟨ret_bool HE.out.symm, HBo.out _ _⟩
        have hd1 : decide (r.2 < 1) = false := by simp; omega
        have HYes : Hid (∀ {left'}, stepR (prevOf l k) left r (decide (k + 1 = l.length)) = some left' → rgo (prevOf l (k + 1)) left' (l.drop (k + 1)) = rightB l) := fun hs => by rw [rgo_yes HR.out hs]; exact HI.out
        have HOp : Hid (isOpB r.1 = true) := hop
        clear hop hI HI
        rcases Nat.eq_zero_or_pos k with hk0_ | hk0
        · have HK0 : Hid (k = 0) := hk0_
          clear hk0_
          have HP : Hid (prevOf l k ≠ some r.1) := fun e => by rw [HK0.out] at e; simp [prevOf] at e
          have hdk0 : decide ((0 : Int) < (k : Int)) = false := by have := HK0.out; simp; omega
          have hdk1 : decide (0 < k) = false := by have := HK0.out; simp; omega
          clear hcs HZ
          go_wp2_with fail
          go_quiet ((go_at_call 100; first | exact Calls.quiet_of_same (HC.out _) | exact Calls.quiet_of_same (HC2.out _)))
          by_cases h83 : r.1 = 83
          · have h8 := is83 h83
            by_cases hbig : 65536 < r.2
            · have hb := (show decide ((65536 : Int) < r.2) = true by simp; omega)
              have HE : Hid (rightB l = false) := HNo.out (stepR_S_bad h83 (.inl hbig))
              clear h83 hbig
              go_wp2
              go_ret
              exact ⟨ret_bool HE.out.symm, HBo.out _ _⟩
            · have hb := (show decide ((65536 : Int) < r.2) = false by simp; omega)
              have HE : Hid (rgo (prevOf l (k + 1)) left (l.drop (k + 1)) = rightB l) := HYes.out (stepR_S HOp.out (by omega) HP.out h83 hbig (.inl (by rw [HK0.out]; rfl)))
              clear h83 hbig
              go_wp2
              go_roundw
              case rel => exact ⟨k + 1, left, by omega, by go_num, by go_num, by omega, by omega, HE.out, HBo.out _ _⟩
              case measure => simp [intOf]; omega
          · have h8 := not83 h83
            by_cases hbig : left < r.2
            · have hb := (show decide (left < r.2) = true by simp; omega)
              have HE : Hid (rightB l = false) := HNo.out (stepR_M_bad h83 hbig)
              clear h83 hbig
              go_wp2
              go_ret
              exact ⟨ret_bool HE.out.symm, HBo.out _ _⟩
            · have hb := (show decide (left < r.2) = false by simp; omega)
              have HE : Hid (rgo (prevOf l (k + 1)) (left - r.2) (l.drop (k + 1)) = rightB l) := HYes.out (stepR_M HOp.out (by omega) HP.out h83 hbig)
              clear h83
              go_wp2
              go_roundw
              case rel => exact ⟨k + 1, left - r.2, by omega, by go_num, by go_num, by omega, by omega, HE.out, HBo.out _ _⟩
              case measure => simp [intOf]; omega
        · obtain ⟨j, rfl⟩ : ∃ j, k = j + 1 := ⟨k - 1, by omega⟩
          have hdk0 : decide ((0 : Int) < (j : Int) + 1) = true := by simp <;> omega
          obtain ⟨q, hq⟩ : ∃ q, l[j]? = some q := ⟨_, List.getElem?_eq_getElem (by rw [HZL.out]; omega)⟩
          have hpq := (hcs j q hq).1
          have HPv : Hid (prevOf l (j + 1) = some q.1) := prevOf_succ hq
          have hjl : (j : Int) < (len : Int) := by omega
          have hblt : b < wr.heap.size := World.block_lt_of_cell? wr _ hpq
          have hbne : ¬ b = wr.heap.size := by omega
          have hpq2 : ∀ o, (wr.alloc o).cell? ⟨b, off + j * 2, none⟩ = some (.int .u8 (q.1.toNat : Int)) := fun o => by rw [((Below.refl wr.heap.size wr).alloc (Nat.le_refl _) o).cell hblt]; exact hpq
          have hwj : IntKind.i64.wrap (j : Int) = (j : Int) := by rw [IntKind.wrap_i64]; omega
          have hj1 : (j : Int) + 1 < (len : Int) := by omega
          clear hq hcs HZ
          by_cases hpr : r.1 = q.1
          · have hdq : ((r.1.toNat : Int) == (q.1.toNat : Int)) = true := by rw [hpr]; simp
            have HE : Hid (rightB l = false) := HNo.out (stepR_bad (.inr (.inr (by rw [HPv.out, hpr]))))
            clear HNo HYes hpr
            go_wp2_with fail
            go_quiet ((go_at_call 100; first | exact Calls.quiet_of_same (HC.out _) | exact Calls.quiet_of_same (HC2.out _)))
            go_wp2
            go_ret
            exact ⟨ret_bool HE.out.symm, HBo.out _ _⟩
          have hdq : ((r.1.toNat : Int) == (q.1.toNat : Int)) = false := nat_byte hpr
          have HP : Hid (prevOf l (j + 1) ≠ some r.1) := fun e => by rw [HPv.out] at e; exact hpr (Option.some.inj e).symm
          have HQ : Hid (prevOf l (j + 1) ≠ none) := fun e => by rw [HPv.out] at e; cases e
          clear hpr
          go_wp2_with fail
          go_quiet ((go_at_call 100; first | exact Calls.quiet_of_same (HC.out _) | exact Calls.quiet_of_same (HC2.out _)))
          by_cases h83 : r.1 = 83
          · have h8 := is83 h83
            by_cases hbig : 65536 < r.2
            · have hb := (show decide ((65536 : Int) < r.2) = true by simp; omega)
              have HE : Hid (rightB l = false) := HNo.out (stepR_S_bad h83 (.inl hbig))
              clear h83 hbig
              go_wp2
              go_ret
              exact ⟨ret_bool HE.out.symm, HBo.out _ _⟩
            · have hb := (show decide ((65536 : Int) < r.2) = false by simp; omega)
              by_cases hmid : j + 1 + 1 < len
              · have hm : decide ((j : Int) + 1 < (len : Int) - 1) = true := by simp; omega
                have HE : Hid (rightB l = false) := HNo.out (stepR_S_bad h83 (.inr ⟨HQ.out, by simp [HZL.out]; omega⟩))
                clear h83 hbig
                go_wp2
                go_ret
                exact ⟨ret_bool HE.out.symm, HBo.out _ _⟩
              · have hm : decide ((j : Int) + 1 < (len : Int) - 1) = false := by simp; omega
                have HE : Hid (rgo (prevOf l (j + 1 + 1)) left (l.drop (j + 1 + 1)) = rightB l) := HYes.out (stepR_S HOp.out (by omega) HP.out h83 hbig (.inr (by simp [HZL.out]; omega)))
                clear h83 hbig
                go_wp2
                go_roundw
                case rel => exact ⟨j + 1 + 1, left, by omega, by go_num, by go_num, by omega, by omega, HE.out, HBo.out _ _⟩
                case measure => simp [intOf]; omega
          · have h8 := not83 h83
            by_cases hbig : left < r.2
            · have hb := (show decide (left < r.2) = true by simp; omega)
              have HE : Hid (rightB l = false) := HNo.out (stepR_M_bad h83 hbig)
              clear h83 hbig
              go_wp2
              go_ret
              exact ⟨ret_bool HE.out.symm, HBo.out _ _⟩
            · have hb := (show decide (left < r.2) = false by simp; omega)
              have HE : Hid (rgo (prevOf l (j + 1 + 1)) (left - r.2) (l.drop (j + 1 + 1)) = rightB l) := HYes.out (stepR_M HOp.out (by omega) HP.out h83 hbig)
              clear h83
              go_wp2
              go_roundw
              case rel => exact ⟨j + 1 + 1, left - r.2, by omega, by go_num, by go_num, by omega, by omega, HE.out, HBo.out _ _⟩
              case measure => simp [intOf]; omega
    · have hdk : decide ((k : Int) < (len : Int)) = false := by simp; omega
      have HE : Hid (rightB l = true) := by
        show _ = _
        rw [← HI.out, List.drop_of_length_le (by rw [HZL.out]; omega)]; rfl
      clear HI
      go_wp2
      go_ret
      exact ⟨ret_bool HE.out.symm, HB.out⟩
end Go.Proofs.YtdhphipdpjhhbaaGreatDoor
