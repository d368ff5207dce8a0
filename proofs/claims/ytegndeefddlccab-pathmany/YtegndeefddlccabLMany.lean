/-
  Proved: whatever three numbers are handed in, PathMany answers true: without a band there are as many legal paths as the ways over all pieces that the mode allows; no condition.
-/
import Derived.Test.YtegndeefddlccabMnA
import Derived.Test.YtegndeefddlccabRows
import Derived.ProofKit
import Derived.OpenShut
import Derived.ShutString
import Derived.ChangeOld
import Derived.Below
import Derived.OwnWalk
namespace Go.Proofs.Ytegndeefddlccab
open Go.RowKit

def mnC (b : Nat) (mode : Int) : Array Value := #[.int .i64 2, .slice (some ⟨b, 0, none⟩) 4 4, .slice (some ⟨b + 1, 0, none⟩) 1 1, .int .i64 mode, .bool false, .int .i64 0, .int .i64 0, .int .i64 0, .int .i64 0, .int .i64 0]
/-- The model in memory, and in its box. -/
structure MnS (b : Nat) (mode : Int) (wr : World) : Prop where
  at' : MdAt wr (mN mode) (some ⟨b, 0, none⟩) 4 (some ⟨b + 1, 0, none⟩) 1
  box : wr.heap[b + 1 + 1]? = some (.cells (mnC b mode) 25 (0, 0))
theorem MnS.next {b : Nat} {mode : Int} {wr w2 : World} (h : MnS b mode wr) (hb : Below wr.heap.size wr w2) : MnS b mode w2 :=
  ⟨h.at'.below hb, (Fr.of_below (O := fun _ => False) hb).heap h.box (fun h => h)⟩
theorem MnS.start (w : World) (mode : Int) : MnS w.heap.size mode (((w.alloc (.cells #[.int .i64 1, .int .i64 0, .int .i64 0, .int .i64 1] 3)).alloc (.cells #[.int .i64 1, .int .i64 1] 47)).alloc (.cells (mnC w.heap.size mode) 25)) := by
  refine ⟨⟨?_, ?_⟩, hp_at (by simp)⟩
  · exact ints_new (zs := [1, 0, 0, 1]) (hp_old (hp_old (hp_at rfl))) rfl (by unfold maxLen; decide)
  · exact gps_new (l := [(1, 1)]) (hp_old (hp_at (by simp))) (by
      intro i x hi
      match i, hi with
      | 0, hi => cases hi; exact ⟨rfl, rfl⟩) (by unfold maxLen; decide)
theorem made_ints {w : World} {base g n : Nat} (h : w.ownsRow base 3 1 (.slice (some ⟨g, 0, none⟩) n n) n (madeCells #[Value.int .i64 0] n).toList) (hn : n ≤ maxLen) : IntsAt w (some ⟨g, 0, none⟩) n (List.replicate n 0) := by
  have e : (madeCells #[Value.int .i64 0] n).toList = intVals (List.replicate n 0) := by
    unfold intVals
    rw [List.map_replicate]
    exact toList_madeCells_one _ _
  rw [e] at h
  exact ints_own h (List.length_replicate) hn
theorem shape_mn {w : World} {base : Nat} {e : TypeId} {size : Nat} {v : Value} {n : Nat} {xs : List Value} (h : w.ownsRow base e size v n xs) : ∃ ao cap, v = .slice ao n cap := by
  rcases h.2 with ⟨hv, h0⟩ | ⟨g, cap, cur, hv, _⟩
  · subst h0; exact ⟨none, 0, hv⟩
  · exact ⟨_, cap, hv⟩
theorem tM_yes {mode : Int} {R C i j k n : Nat} (h : (begM mode i j && endM mode R C k n) = true) : tM mode R C i j k n = dlI 8 ((k : Int) - i) ((n : Int) - j) := by unfold tM; rw [if_pos h]
theorem tM_no {mode : Int} {R C i j k n : Nat} (h : (begM mode i j && endM mode R C k n) = false) : tM mode R C i j k n = 0 := by unfold tM; rw [if_neg (by rw [h]; decide)]
set_option maxRecDepth 20000 in
set_option maxHeartbeats 4000000 in
theorem many_in (R C : Nat) (mode : Int) (w : World) (hR : R ≤ 4) (hC : C ≤ 4) (hm1 : 1 ≤ mode) (hm2 : mode ≤ 4) :
    Calls Try.prog 5 #[.int .i64 R, .int .i64 C, .int .i64 mode] w fun e w' => e = .returned (.bool true) ∧ Below w.heap.size w w' := by
  obtain ⟨i3, hi3, hz30, hz31, hz32⟩ := info_parts info3
  have u1 : ¬ (R : Int) < 0 := by omega
  have u2 : ¬ (C : Int) < 0 := by omega
  have u3 : ¬ 4 < (R : Int) := by omega
  have u4 : ¬ 4 < (C : Int) := by omega
  have u5 : ¬ mode < 1 := by omega
  have u6 : ¬ 4 < mode := by omega
  go_enter Try.func5, Try.ntmps5
  go_wp2_with fail
  refine (awake_calls _).mono ?_
  rintro e w1 ⟨rfl, hb1⟩
  have HB1 : Hid (Below w.heap.size w w1) := hb1
  have hsz : w.heap.size ≤ w1.heap.size := hb1.size
  have HS0 : Hid (MnS w1.heap.size mode (((w1.alloc (.cells #[.int .i64 1, .int .i64 0, .int .i64 0, .int .i64 1] 3)).alloc (.cells #[.int .i64 1, .int .i64 1] 47)).alloc (.cells #[.int .i64 2, .slice (some ⟨w1.heap.size, 0, none⟩) 4 4, .slice (some ⟨w1.heap.size + 1, 0, none⟩) 1 1, .int .i64 mode, .bool false, .int .i64 0, .int .i64 0, .int .i64 0, .int .i64 0, .int .i64 0] 25))) := MnS.start w1 mode
  clear hb1
  have hsm : w1.heap.size ≤ (((w1.alloc (.cells #[.int .i64 1, .int .i64 0, .int .i64 0, .int .i64 1] 3)).alloc (.cells #[.int .i64 1, .int .i64 1] 47)).alloc (.cells #[.int .i64 2, .slice (some ⟨w1.heap.size, 0, none⟩) 4 4, .slice (some ⟨w1.heap.size + 1, 0, none⟩) 1 1, .int .i64 mode, .bool false, .int .i64 0, .int .i64 0, .int .i64 0, .int .i64 0, .int .i64 0] 25)).heap.size := by simp; omega
  have HB3 : Hid (Below w.heap.size w (((w1.alloc (.cells #[.int .i64 1, .int .i64 0, .int .i64 0, .int .i64 1] 3)).alloc (.cells #[.int .i64 1, .int .i64 1] 47)).alloc (.cells #[.int .i64 2, .slice (some ⟨w1.heap.size, 0, none⟩) 4 4, .slice (some ⟨w1.heap.size + 1, 0, none⟩) 1 1, .int .i64 mode, .bool false, .int .i64 0, .int .i64 0, .int .i64 0, .int .i64 0, .int .i64 0] 25))) := below_al (below_al (below_al HB1.out _) _) _
  clear HB1
  go_wp2_with (at_make; refine wpList_make_full _ rfl _ _ 22 rfl w1.heap.size 3 i3 (.int .i64 0) 1 Try.underlying22 hi3 hz30 hz31 .i64 .i64 _ _ R rfl rfl rfl rfl (by rw [hz32]; omega) (by unfold maxLen; omega) hsm ?_)
  intro w2 hown hgrow
  have hb2 : Below (((w1.alloc (.cells #[.int .i64 1, .int .i64 0, .int .i64 0, .int .i64 1] 3)).alloc (.cells #[.int .i64 1, .int .i64 1] 47)).alloc (.cells #[.int .i64 2, .slice (some ⟨w1.heap.size, 0, none⟩) 4 4, .slice (some ⟨w1.heap.size + 1, 0, none⟩) 1 1, .int .i64 mode, .bool false, .int .i64 0, .int .i64 0, .int .i64 0, .int .i64 0, .int .i64 0] 25)).heap.size (((w1.alloc (.cells #[.int .i64 1, .int .i64 0, .int .i64 0, .int .i64 1] 3)).alloc (.cells #[.int .i64 1, .int .i64 1] 47)).alloc (.cells #[.int .i64 2, .slice (some ⟨w1.heap.size, 0, none⟩) 4 4, .slice (some ⟨w1.heap.size + 1, 0, none⟩) 1 1, .int .i64 mode, .bool false, .int .i64 0, .int .i64 0, .int .i64 0, .int .i64 0, .int .i64 0] 25)) w2 := (Below.refl _ _).grown hgrow (Nat.le_refl _) (by intro k hk; cases hk)
  have HX : Hid (IntsAt w2 (some ⟨w1.heap.size + 1 + 1 + 1, 0, none⟩) R (List.replicate R 0)) := made_ints hown (by unfold maxLen; omega)
  have HS2 : Hid (MnS w1.heap.size mode w2) := HS0.out.next hb2
  have HB2 : Hid (Below w.heap.size w w2) := HB3.out.trans (hb2.mono HB3.out.size)
  have hsz2 : w1.heap.size ≤ w2.heap.size := Nat.le_trans hsm hb2.size
  clear hown hgrow hb2 HB3 HS0 hsm
  go_wp2_with (at_make; refine wpList_make_full _ rfl _ _ 22 rfl w1.heap.size 3 i3 (.int .i64 0) 1 Try.underlying22 hi3 hz30 hz31 .i64 .i64 _ _ C rfl rfl rfl rfl (by rw [hz32]; omega) (by unfold maxLen; omega) hsz2 ?_)
  intro w3 hown hgrow
  have hb3 : Below w2.heap.size w2 w3 := (Below.refl _ _).grown hgrow (Nat.le_refl _) (by intro k hk; cases hk)
  have HY : Hid (IntsAt w3 (some ⟨w2.heap.size, 0, none⟩) C (List.replicate C 0)) := made_ints hown (by unfold maxLen; omega)
  have HX3 : Hid (IntsAt w3 (some ⟨w1.heap.size + 1 + 1 + 1, 0, none⟩) R (List.replicate R 0)) := HX.out.below hb3
  have HS3 : Hid (MnS w1.heap.size mode w3) := HS2.out.next hb3
  have HB3 : Hid (Below w.heap.size w w3) := HB2.out.trans (hb3.mono HB2.out.size)
  clear hown hgrow hb3 HB2 HS2 HX
  have c0 := cell_block HS3.out.box 0 (.int .i64 2) rfl; have c1 := cell_block HS3.out.box 1 (.slice (some ⟨w1.heap.size, 0, none⟩) 4 4) rfl; have c2 := cell_block HS3.out.box 2 (.slice (some ⟨w1.heap.size + 1, 0, none⟩) 1 1) rfl; have c3 := cell_block HS3.out.box 3 (.int .i64 mode) rfl; have c4 := cell_block HS3.out.box 4 (.bool false) rfl; have c5 := cell_block HS3.out.box 5 (.int .i64 0) rfl; have c6 := cell_block HS3.out.box 6 (.int .i64 0) rfl; have c7 := cell_block HS3.out.box 7 (.int .i64 0) rfl; have c8 := cell_block HS3.out.box 8 (.int .i64 0) rfl; have c9 := cell_block HS3.out.box 9 (.int .i64 0) rfl
  have HE : Hid (((pathsB (mN mode) R C).length : Int) = s1 mode R C ∧ shE (mN mode) (List.replicate R 0) (List.replicate C 0) = 0) := many_eq hm1 hm2 hR hC
  have HF : Hid ((pathsB (mN mode) R C).length ≤ 100000) := paths_few hm1 hm2 hR hC
  go_wp2_with fail
  refine (all_calls (mN mode) (some ⟨w1.heap.size, 0, none⟩) 4 4 (some ⟨w1.heap.size + 1, 0, none⟩) 1 1 _ R R _ C C (List.replicate R 0) (List.replicate C 0) w3 HS3.out.at' HX3.out HY.out).mono ?_
  rintro e w4 ⟨v, rfl, hb4, hown, _⟩
  have HB4 : Hid (Below w.heap.size w w4) := HB3.out.trans (hb4.mono HB3.out.size)
  rw [HE.out.2] at hown ⊢
  obtain ⟨va, vc, hv⟩ := shape_mn (hown rfl)
  rw [List.length_replicate, List.length_replicate] at hv
  subst hv
  clear hown hb4 HB3 HS3 HX3 HY c0 c1 c2 c3 c4 c5 c6 c7 c8 c9
  obtain ⟨len, hlen⟩ : ∃ len, (pathsB (mN mode) R C).length = len := ⟨_, rfl⟩
  rw [hlen]
  have HL : Hid ((len : Int) = s1 mode R C ∧ len ≤ 100000) := by rw [← hlen]; exact ⟨HE.out.1, HF.out⟩
  clear hlen HE HF
  go_wp2
  go_loop [13, 14] (fun v i => ∃ x : Nat, x ≤ R + 1 ∧ i = .int .i64 x ∧ v = .int .i64 (wrap64 (sumR (fun i => s2 mode R C i) 0 x))) (fun _ i => R + 1 - (intOf i).toNat)
  case atStart => exact ⟨0, Nat.zero_le _, rfl, by rw [sumR]; unfold wrap64; rfl⟩
  case round =>
    obtain ⟨x, hx, rfl, rfl⟩ := hrel
    obtain ⟨A1, hA1⟩ : ∃ A, sumR (fun i => s2 mode R C i) 0 x = A := ⟨_, rfl⟩
    have HA1 : Hid (sumR (fun i => s2 mode R C i) 0 (x + 1) = A1 + s2 mode R C x) := by show _ = _; rw [sumR, hA1, Nat.zero_add]
    have HL1 : Hid (sumR (fun i => s2 mode R C i) 0 x = A1) := hA1
    rw [hA1]
    clear hA1
    by_cases hxl : x ≤ R
    · have d1 : decide ((x : Int) ≤ (R : Int)) = true := by simp; omega
      obtain ⟨a1, ha1⟩ : ∃ a, wrap64 A1 = a := ⟨_, rfl⟩
      have HW1 : Hid (wrap64 A1 = a1) := ha1
      rw [ha1]
      clear ha1 HL1
      go_wp2
      go_loop [13, 15] (fun v i => ∃ y : Nat, y ≤ C + 1 ∧ i = .int .i64 y ∧ v = .int .i64 (wrap64 (A1 + sumR (fun j => s3 mode R C x j) 0 y))) (fun _ i => C + 1 - (intOf i).toNat)
      case atStart => exact ⟨0, Nat.zero_le _, rfl, by rw [sumR, Int.add_zero, HW1.out]⟩
      case round =>
        obtain ⟨y, hy, rfl, rfl⟩ := hrel
        obtain ⟨A2, hA2⟩ : ∃ A, A1 + sumR (fun j => s3 mode R C x j) 0 y = A := ⟨_, rfl⟩
        have HA2 : Hid (A1 + sumR (fun j => s3 mode R C x j) 0 (y + 1) = A2 + s3 mode R C x y) := by show _ = _; rw [sumR, ← hA2, Nat.zero_add, Int.add_assoc]
        have HL2 : Hid (A1 + sumR (fun j => s3 mode R C x j) 0 y = A2) := hA2
        rw [hA2]
        clear hA2
        by_cases hyl : y ≤ C
        · have d2 : decide ((y : Int) ≤ (C : Int)) = true := by simp; omega
          obtain ⟨a2, ha2⟩ : ∃ a, wrap64 A2 = a := ⟨_, rfl⟩
          have HW2 : Hid (wrap64 A2 = a2) := ha2
          rw [ha2]
          clear ha2 HL2
          go_wp2
          go_loop [13, 16] (fun v i => ∃ d : Nat, d ≤ R + 1 - x ∧ i = .int .i64 ((x + d : Nat) : Int) ∧ v = .int .i64 (wrap64 (A2 + sumR (fun k => s4 mode R C x y k) x d))) (fun _ i => R + 1 - (intOf i).toNat)
          case atStart => exact ⟨0, Nat.zero_le _, rfl, by rw [sumR, Int.add_zero, HW2.out]⟩
          case round =>
            obtain ⟨d, hd, rfl, rfl⟩ := hrel
            obtain ⟨A3, hA3⟩ : ∃ A, A2 + sumR (fun k => s4 mode R C x y k) x d = A := ⟨_, rfl⟩
            have HA3 : Hid (A2 + sumR (fun k => s4 mode R C x y k) x (d + 1) = A3 + s4 mode R C x y (x + d)) := by show _ = _; rw [sumR, ← hA3, Int.add_assoc]
            have HL3 : Hid (A2 + sumR (fun k => s4 mode R C x y k) x d = A3) := hA3
            rw [hA3]
            clear hA3
            obtain ⟨k, hk⟩ : ∃ k, x + d = k := ⟨_, rfl⟩
            have HK : Hid (x + d = k) := hk
            rw [hk] at HA3 ⊢
            by_cases hkl : k ≤ R
            · have d3 : decide ((k : Int) ≤ (R : Int)) = true := by simp; omega
              have hkx : x ≤ k := by omega
              clear hk hd
              obtain ⟨a3, ha3⟩ : ∃ a, wrap64 A3 = a := ⟨_, rfl⟩
              have HW3 : Hid (wrap64 A3 = a3) := ha3
              rw [ha3]
              clear ha3 HL3
              go_wp2
              go_loop [13, 17] (fun v i => ∃ f : Nat, f ≤ C + 1 - y ∧ i = .int .i64 ((y + f : Nat) : Int) ∧ v = .int .i64 (wrap64 (A3 + sumR (fun n => tM mode R C x y k n) y f))) (fun _ i => C + 1 - (intOf i).toNat)
              case atStart => exact ⟨0, Nat.zero_le _, rfl, by rw [sumR, Int.add_zero, HW3.out]⟩
              case round =>
                obtain ⟨f, hf, rfl, rfl⟩ := hrel
                obtain ⟨A4, hA4⟩ : ∃ A, A3 + sumR (fun n => tM mode R C x y k n) y f = A := ⟨_, rfl⟩
                have HA4 : Hid (A3 + sumR (fun n => tM mode R C x y k n) y (f + 1) = A4 + tM mode R C x y k (y + f)) := by show _ = _; rw [sumR, ← hA4, Int.add_assoc]
                have HL4 : Hid (A3 + sumR (fun n => tM mode R C x y k n) y f = A4) := hA4
                rw [hA4]
                clear hA4
                obtain ⟨n, hn⟩ : ∃ n, y + f = n := ⟨_, rfl⟩
                have HN : Hid (y + f = n) := hn
                rw [hn] at HA4 ⊢
                by_cases hnl : n ≤ C
                · have d4 : decide ((n : Int) ≤ (C : Int)) = true := by simp; omega
                  have hny : y ≤ n := by omega
                  clear hn hf
                  obtain ⟨a4, ha4⟩ : ∃ a, wrap64 A4 = a := ⟨_, rfl⟩
                  have HW4 : Hid (wrap64 A4 = a4) := ha4
                  rw [ha4]
                  clear ha4 HL4
                  obtain ⟨bx, hbx⟩ : ∃ b : Bool, ((x : Int) == 0) = b := ⟨_, rfl⟩
                  obtain ⟨b2, hb2⟩ : ∃ b : Bool, ((y : Int) == 0) = b := ⟨_, rfl⟩
                  obtain ⟨bk, hbk⟩ : ∃ b : Bool, ((k : Int) == (R : Int)) = b := ⟨_, rfl⟩
                  obtain ⟨bn, hbn⟩ : ∃ b : Bool, ((n : Int) == (C : Int)) = b := ⟨_, rfl⟩
                  obtain ⟨m2, hm2'⟩ : ∃ b : Bool, (mode == 2) = b := ⟨_, rfl⟩
                  obtain ⟨m3, hm3⟩ : ∃ b : Bool, (mode == 3) = b := ⟨_, rfl⟩
                  obtain ⟨m4, hm4⟩ : ∃ b : Bool, (mode == 4) = b := ⟨_, rfl⟩
                  have HTv : Hid ((begM mode x y && endM mode R C k n) = (((bx && b2) || m3 || (m2 && b2)) && ((bk && bn) || m3 || m4 || (m2 && bn)))) := by show _ = _; unfold begM endM; rw [hbx, hb2, hbk, hbn, hm2', hm3, hm4]
                  have HR : Hid (∀ v : Int, v = wrap64 (a4 + tM mode R C x y k n) → v = wrap64 (A3 + sumR (fun n => tM mode R C x y k n) y (f + 1))) := fun v hv => by rw [hv, HA4.out, ← HW4.out, wrap_add]
                  have HW : Hid (wrap64 (a4 + 0) = a4) := by show _ = _; rw [← HW4.out, Int.add_zero]; unfold wrap64; omega
                  have hm23 : ¬ (m2 = true ∧ m3 = true) := by rintro ⟨rfl, rfl⟩; simp at hm2' hm3; omega
                  have hm24 : ¬ (m2 = true ∧ m4 = true) := by rintro ⟨rfl, rfl⟩; simp at hm2' hm4; omega
                  have hm34 : ¬ (m3 = true ∧ m4 = true) := by rintro ⟨rfl, rfl⟩; simp at hm3 hm4; omega
                  clear HA4 HW4
                  cases m2 with
                  | true =>
                    obtain rfl : m3 = false := by cases m3 with
                      | false => rfl
                      | true => exact absurd ⟨rfl, rfl⟩ hm23
                    obtain rfl : m4 = false := by cases m4 with
                      | false => rfl
                      | true => exact absurd ⟨rfl, rfl⟩ hm24
                    clear hm23 hm24 hm34
                    cases bx with
                    | false =>
                      cases b2 with
                      | false =>
                        cases bk with
                        | false =>
                          cases bn with
                          | false =>
                            have HV : Hid (tM mode R C x y k n = 0) := tM_no (HTv.out.trans (by first | rfl | (cases b2 <;> rfl) | (cases bn <;> rfl) | (cases b2 <;> cases bn <;> rfl)))
                            have HQ : Hid (a4 = wrap64 (A3 + sumR (fun n => tM mode R C x y k n) y (f + 1))) := HR.out _ (by rw [HV.out, HW.out])
                            clear HTv HR HV HW
                            go_wp2
                            go_round
                            case rel => exact ⟨f + 1, by have := HN.out; omega, by rw [← Nat.add_assoc, HN.out]; go_num, by rw [← HQ.out]⟩
                            case measure => simp [intOf]; omega
                          | true =>
                            have HV : Hid (tM mode R C x y k n = 0) := tM_no (HTv.out.trans (by first | rfl | (cases b2 <;> rfl) | (cases bn <;> rfl) | (cases b2 <;> cases bn <;> rfl)))
                            have HQ : Hid (a4 = wrap64 (A3 + sumR (fun n => tM mode R C x y k n) y (f + 1))) := HR.out _ (by rw [HV.out, HW.out])
                            clear HTv HR HV HW
                            go_wp2
                            go_round
                            case rel => exact ⟨f + 1, by have := HN.out; omega, by rw [← Nat.add_assoc, HN.out]; go_num, by rw [← HQ.out]⟩
                            case measure => simp [intOf]; omega
                        | true =>
                          cases bn with
                          | false =>
                            have HV : Hid (tM mode R C x y k n = 0) := tM_no (HTv.out.trans (by first | rfl | (cases b2 <;> rfl) | (cases bn <;> rfl) | (cases b2 <;> cases bn <;> rfl)))
                            have HQ : Hid (a4 = wrap64 (A3 + sumR (fun n => tM mode R C x y k n) y (f + 1))) := HR.out _ (by rw [HV.out, HW.out])
                            clear HTv HR HV HW
                            go_wp2
                            go_round
                            case rel => exact ⟨f + 1, by have := HN.out; omega, by rw [← Nat.add_assoc, HN.out]; go_num, by rw [← HQ.out]⟩
                            case measure => simp [intOf]; omega
                          | true =>
                            have HV : Hid (tM mode R C x y k n = 0) := tM_no (HTv.out.trans (by first | rfl | (cases b2 <;> rfl) | (cases bn <;> rfl) | (cases b2 <;> cases bn <;> rfl)))
                            have HQ : Hid (a4 = wrap64 (A3 + sumR (fun n => tM mode R C x y k n) y (f + 1))) := HR.out _ (by rw [HV.out, HW.out])
                            clear HTv HR HV HW
                            go_wp2
                            go_round
                            case rel => exact ⟨f + 1, by have := HN.out; omega, by rw [← Nat.add_assoc, HN.out]; go_num, by rw [← HQ.out]⟩
                            case measure => simp [intOf]; omega
                      | true =>
                        cases bk with
                        | false =>
                          cases bn with
                          | false =>
                            have HV : Hid (tM mode R C x y k n = 0) := tM_no (HTv.out.trans (by first | rfl | (cases b2 <;> rfl) | (cases bn <;> rfl) | (cases b2 <;> cases bn <;> rfl)))
                            have HQ : Hid (a4 = wrap64 (A3 + sumR (fun n => tM mode R C x y k n) y (f + 1))) := HR.out _ (by rw [HV.out, HW.out])
                            clear HTv HR HV HW
                            go_wp2
                            go_round
                            case rel => exact ⟨f + 1, by have := HN.out; omega, by rw [← Nat.add_assoc, HN.out]; go_num, by rw [← HQ.out]⟩
                            case measure => simp [intOf]; omega
                          | true =>
                            have HV : Hid (tM mode R C x y k n = dlI 8 ((k : Int) - x) ((n : Int) - y)) := tM_yes (HTv.out.trans rfl)
                            go_wp2_with fail
                            refine (many_calls 8 _ _ _ (by omega) (by omega) (by omega) (by decide)).mono ?_
                            rintro e w5 ⟨rfl, rfl⟩
                            rw [← HV.out]
                            generalize tM mode R C x y k n = tt at *
                            go_wp2
                            go_round
                            case rel => exact ⟨f + 1, by have := HN.out; omega, by rw [← Nat.add_assoc, HN.out]; go_num, by rw [← HR.out _ rfl]⟩
                            case measure => simp [intOf]; omega
                        | true =>
                          cases bn with
                          | false =>
                            have HV : Hid (tM mode R C x y k n = 0) := tM_no (HTv.out.trans (by first | rfl | (cases b2 <;> rfl) | (cases bn <;> rfl) | (cases b2 <;> cases bn <;> rfl)))
                            have HQ : Hid (a4 = wrap64 (A3 + sumR (fun n => tM mode R C x y k n) y (f + 1))) := HR.out _ (by rw [HV.out, HW.out])
                            clear HTv HR HV HW
                            go_wp2
                            go_round
                            case rel => exact ⟨f + 1, by have := HN.out; omega, by rw [← Nat.add_assoc, HN.out]; go_num, by rw [← HQ.out]⟩
                            case measure => simp [intOf]; omega
                          | true =>
                            have HV : Hid (tM mode R C x y k n = dlI 8 ((k : Int) - x) ((n : Int) - y)) := tM_yes (HTv.out.trans rfl)
                            go_wp2_with fail
                            refine (many_calls 8 _ _ _ (by omega) (by omega) (by omega) (by decide)).mono ?_
                            rintro e w5 ⟨rfl, rfl⟩
                            rw [← HV.out]
                            generalize tM mode R C x y k n = tt at *
                            go_wp2
                            go_round
                            case rel => exact ⟨f + 1, by have := HN.out; omega, by rw [← Nat.add_assoc, HN.out]; go_num, by rw [← HR.out _ rfl]⟩
                            case measure => simp [intOf]; omega
                    | true =>
                      cases b2 with
                      | false =>
                        cases bk with
                        | false =>
                          cases bn with
                          | false =>
                            have HV : Hid (tM mode R C x y k n = 0) := tM_no (HTv.out.trans (by first | rfl | (cases b2 <;> rfl) | (cases bn <;> rfl) | (cases b2 <;> cases bn <;> rfl)))
                            have HQ : Hid (a4 = wrap64 (A3 + sumR (fun n => tM mode R C x y k n) y (f + 1))) := HR.out _ (by rw [HV.out, HW.out])
                            clear HTv HR HV HW
                            go_wp2
                            go_round
                            case rel => exact ⟨f + 1, by have := HN.out; omega, by rw [← Nat.add_assoc, HN.out]; go_num, by rw [← HQ.out]⟩
                            case measure => simp [intOf]; omega
                          | true =>
                            have HV : Hid (tM mode R C x y k n = 0) := tM_no (HTv.out.trans (by first | rfl | (cases b2 <;> rfl) | (cases bn <;> rfl) | (cases b2 <;> cases bn <;> rfl)))
                            have HQ : Hid (a4 = wrap64 (A3 + sumR (fun n => tM mode R C x y k n) y (f + 1))) := HR.out _ (by rw [HV.out, HW.out])
                            clear HTv HR HV HW
                            go_wp2
                            go_round
                            case rel => exact ⟨f + 1, by have := HN.out; omega, by rw [← Nat.add_assoc, HN.out]; go_num, by rw [← HQ.out]⟩
                            case measure => simp [intOf]; omega
                        | true =>
                          cases bn with
                          | false =>
                            have HV : Hid (tM mode R C x y k n = 0) := tM_no (HTv.out.trans (by first | rfl | (cases b2 <;> rfl) | (cases bn <;> rfl) | (cases b2 <;> cases bn <;> rfl)))
                            have HQ : Hid (a4 = wrap64 (A3 + sumR (fun n => tM mode R C x y k n) y (f + 1))) := HR.out _ (by rw [HV.out, HW.out])
                            clear HTv HR HV HW
                            go_wp2
                            go_round
                            case rel => exact ⟨f + 1, by have := HN.out; omega, by rw [← Nat.add_assoc, HN.out]; go_num, by rw [← HQ.out]⟩
                            case measure => simp [intOf]; omega
                          | true =>
                            have HV : Hid (tM mode R C x y k n = 0) := tM_no (HTv.out.trans (by first | rfl | (cases b2 <;> rfl) | (cases bn <;> rfl) | (cases b2 <;> cases bn <;> rfl)))
                            have HQ : Hid (a4 = wrap64 (A3 + sumR (fun n => tM mode R C x y k n) y (f + 1))) := HR.out _ (by rw [HV.out, HW.out])
                            clear HTv HR HV HW
                            go_wp2
                            go_round
                            case rel => exact ⟨f + 1, by have := HN.out; omega, by rw [← Nat.add_assoc, HN.out]; go_num, by rw [← HQ.out]⟩
                            case measure => simp [intOf]; omega
                      | true =>
                        cases bk with
                        | false =>
                          cases bn with
                          | false =>
                            have HV : Hid (tM mode R C x y k n = 0) := tM_no (HTv.out.trans (by first | rfl | (cases b2 <;> rfl) | (cases bn <;> rfl) | (cases b2 <;> cases bn <;> rfl)))
                            have HQ : Hid (a4 = wrap64 (A3 + sumR (fun n => tM mode R C x y k n) y (f + 1))) := HR.out _ (by rw [HV.out, HW.out])
                            clear HTv HR HV HW
                            go_wp2
                            go_round
                            case rel => exact ⟨f + 1, by have := HN.out; omega, by rw [← Nat.add_assoc, HN.out]; go_num, by rw [← HQ.out]⟩
                            case measure => simp [intOf]; omega
                          | true =>
                            have HV : Hid (tM mode R C x y k n = dlI 8 ((k : Int) - x) ((n : Int) - y)) := tM_yes (HTv.out.trans rfl)
                            go_wp2_with fail
                            refine (many_calls 8 _ _ _ (by omega) (by omega) (by omega) (by decide)).mono ?_
                            rintro e w5 ⟨rfl, rfl⟩
                            rw [← HV.out]
                            generalize tM mode R C x y k n = tt at *
                            go_wp2
                            go_round
                            case rel => exact ⟨f + 1, by have := HN.out; omega, by rw [← Nat.add_assoc, HN.out]; go_num, by rw [← HR.out _ rfl]⟩
                            case measure => simp [intOf]; omega
                        | true =>
                          cases bn with
                          | false =>
                            have HV : Hid (tM mode R C x y k n = 0) := tM_no (HTv.out.trans (by first | rfl | (cases b2 <;> rfl) | (cases bn <;> rfl) | (cases b2 <;> cases bn <;> rfl)))
                            have HQ : Hid (a4 = wrap64 (A3 + sumR (fun n => tM mode R C x y k n) y (f + 1))) := HR.out _ (by rw [HV.out, HW.out])
                            clear HTv HR HV HW
                            go_wp2
                            go_round
                            case rel => exact ⟨f + 1, by have := HN.out; omega, by rw [← Nat.add_assoc, HN.out]; go_num, by rw [← HQ.out]⟩
                            case measure => simp [intOf]; omega
                          | true =>
                            have HV : Hid (tM mode R C x y k n = dlI 8 ((k : Int) - x) ((n : Int) - y)) := tM_yes (HTv.out.trans rfl)
                            go_wp2_with fail
                            refine (many_calls 8 _ _ _ (by omega) (by omega) (by omega) (by decide)).mono ?_
                            rintro e w5 ⟨rfl, rfl⟩
                            rw [← HV.out]
                            generalize tM mode R C x y k n = tt at *
                            go_wp2
                            go_round
                            case rel => exact ⟨f + 1, by have := HN.out; omega, by rw [← Nat.add_assoc, HN.out]; go_num, by rw [← HR.out _ rfl]⟩
                            case measure => simp [intOf]; omega
                  | false =>
                    cases m3 with
                    | true =>
                      obtain rfl : m4 = false := by cases m4 with
                        | false => rfl
                        | true => exact absurd ⟨rfl, rfl⟩ hm34
                      clear hm23 hm24 hm34
                      cases bx with
                      | false =>
                        cases bk with
                        | false =>
                          have HV : Hid (tM mode R C x y k n = dlI 8 ((k : Int) - x) ((n : Int) - y)) := tM_yes (HTv.out.trans rfl)
                          go_wp2_with fail
                          refine (many_calls 8 _ _ _ (by omega) (by omega) (by omega) (by decide)).mono ?_
                          rintro e w5 ⟨rfl, rfl⟩
                          rw [← HV.out]
                          generalize tM mode R C x y k n = tt at *
                          go_wp2
                          go_round
                          case rel => exact ⟨f + 1, by have := HN.out; omega, by rw [← Nat.add_assoc, HN.out]; go_num, by rw [← HR.out _ rfl]⟩
                          case measure => simp [intOf]; omega
                        | true =>
                          cases bn with
                          | false =>
                            have HV : Hid (tM mode R C x y k n = dlI 8 ((k : Int) - x) ((n : Int) - y)) := tM_yes (HTv.out.trans rfl)
                            go_wp2_with fail
                            refine (many_calls 8 _ _ _ (by omega) (by omega) (by omega) (by decide)).mono ?_
                            rintro e w5 ⟨rfl, rfl⟩
                            rw [← HV.out]
                            generalize tM mode R C x y k n = tt at *
                            go_wp2
                            go_round
                            case rel => exact ⟨f + 1, by have := HN.out; omega, by rw [← Nat.add_assoc, HN.out]; go_num, by rw [← HR.out _ rfl]⟩
                            case measure => simp [intOf]; omega
                          | true =>
                            have HV : Hid (tM mode R C x y k n = dlI 8 ((k : Int) - x) ((n : Int) - y)) := tM_yes (HTv.out.trans rfl)
                            go_wp2_with fail
                            refine (many_calls 8 _ _ _ (by omega) (by omega) (by omega) (by decide)).mono ?_
                            rintro e w5 ⟨rfl, rfl⟩
                            rw [← HV.out]
                            generalize tM mode R C x y k n = tt at *
                            go_wp2
                            go_round
                            case rel => exact ⟨f + 1, by have := HN.out; omega, by rw [← Nat.add_assoc, HN.out]; go_num, by rw [← HR.out _ rfl]⟩
                            case measure => simp [intOf]; omega
                      | true =>
                        cases b2 with
                        | false =>
                          cases bk with
                          | false =>
                            have HV : Hid (tM mode R C x y k n = dlI 8 ((k : Int) - x) ((n : Int) - y)) := tM_yes (HTv.out.trans rfl)
                            go_wp2_with fail
                            refine (many_calls 8 _ _ _ (by omega) (by omega) (by omega) (by decide)).mono ?_
                            rintro e w5 ⟨rfl, rfl⟩
                            rw [← HV.out]
                            generalize tM mode R C x y k n = tt at *
                            go_wp2
                            go_round
                            case rel => exact ⟨f + 1, by have := HN.out; omega, by rw [← Nat.add_assoc, HN.out]; go_num, by rw [← HR.out _ rfl]⟩
                            case measure => simp [intOf]; omega
                          | true =>
                            cases bn with
                            | false =>
                              have HV : Hid (tM mode R C x y k n = dlI 8 ((k : Int) - x) ((n : Int) - y)) := tM_yes (HTv.out.trans rfl)
                              go_wp2_with fail
                              refine (many_calls 8 _ _ _ (by omega) (by omega) (by omega) (by decide)).mono ?_
                              rintro e w5 ⟨rfl, rfl⟩
                              rw [← HV.out]
                              generalize tM mode R C x y k n = tt at *
                              go_wp2
                              go_round
                              case rel => exact ⟨f + 1, by have := HN.out; omega, by rw [← Nat.add_assoc, HN.out]; go_num, by rw [← HR.out _ rfl]⟩
                              case measure => simp [intOf]; omega
                            | true =>
                              have HV : Hid (tM mode R C x y k n = dlI 8 ((k : Int) - x) ((n : Int) - y)) := tM_yes (HTv.out.trans rfl)
                              go_wp2_with fail
                              refine (many_calls 8 _ _ _ (by omega) (by omega) (by omega) (by decide)).mono ?_
                              rintro e w5 ⟨rfl, rfl⟩
                              rw [← HV.out]
                              generalize tM mode R C x y k n = tt at *
                              go_wp2
                              go_round
                              case rel => exact ⟨f + 1, by have := HN.out; omega, by rw [← Nat.add_assoc, HN.out]; go_num, by rw [← HR.out _ rfl]⟩
                              case measure => simp [intOf]; omega
                        | true =>
                          cases bk with
                          | false =>
                            have HV : Hid (tM mode R C x y k n = dlI 8 ((k : Int) - x) ((n : Int) - y)) := tM_yes (HTv.out.trans rfl)
                            go_wp2_with fail
                            refine (many_calls 8 _ _ _ (by omega) (by omega) (by omega) (by decide)).mono ?_
                            rintro e w5 ⟨rfl, rfl⟩
                            rw [← HV.out]
                            generalize tM mode R C x y k n = tt at *
                            go_wp2
                            go_round
                            case rel => exact ⟨f + 1, by have := HN.out; omega, by rw [← Nat.add_assoc, HN.out]; go_num, by rw [← HR.out _ rfl]⟩
                            case measure => simp [intOf]; omega
                          | true =>
                            cases bn with
                            | false =>
                              have HV : Hid (tM mode R C x y k n = dlI 8 ((k : Int) - x) ((n : Int) - y)) := tM_yes (HTv.out.trans rfl)
                              go_wp2_with fail
                              refine (many_calls 8 _ _ _ (by omega) (by omega) (by omega) (by decide)).mono ?_
                              rintro e w5 ⟨rfl, rfl⟩
                              rw [← HV.out]
                              generalize tM mode R C x y k n = tt at *
                              go_wp2
                              go_round
                              case rel => exact ⟨f + 1, by have := HN.out; omega, by rw [← Nat.add_assoc, HN.out]; go_num, by rw [← HR.out _ rfl]⟩
                              case measure => simp [intOf]; omega
                            | true =>
                              have HV : Hid (tM mode R C x y k n = dlI 8 ((k : Int) - x) ((n : Int) - y)) := tM_yes (HTv.out.trans rfl)
                              go_wp2_with fail
                              refine (many_calls 8 _ _ _ (by omega) (by omega) (by omega) (by decide)).mono ?_
                              rintro e w5 ⟨rfl, rfl⟩
                              rw [← HV.out]
                              generalize tM mode R C x y k n = tt at *
                              go_wp2
                              go_round
                              case rel => exact ⟨f + 1, by have := HN.out; omega, by rw [← Nat.add_assoc, HN.out]; go_num, by rw [← HR.out _ rfl]⟩
                              case measure => simp [intOf]; omega
                    | false =>
                      clear hm23 hm24 hm34
                      cases m4 with
                      | true =>
                        cases bx with
                        | false =>
                          cases bk with
                          | false =>
                            have HV : Hid (tM mode R C x y k n = 0) := tM_no (HTv.out.trans (by first | rfl | (cases b2 <;> rfl) | (cases bn <;> rfl) | (cases b2 <;> cases bn <;> rfl)))
                            have HQ : Hid (a4 = wrap64 (A3 + sumR (fun n => tM mode R C x y k n) y (f + 1))) := HR.out _ (by rw [HV.out, HW.out])
                            clear HTv HR HV HW
                            go_wp2
                            go_round
                            case rel => exact ⟨f + 1, by have := HN.out; omega, by rw [← Nat.add_assoc, HN.out]; go_num, by rw [← HQ.out]⟩
                            case measure => simp [intOf]; omega
                          | true =>
                            cases bn with
                            | false =>
                              have HV : Hid (tM mode R C x y k n = 0) := tM_no (HTv.out.trans (by first | rfl | (cases b2 <;> rfl) | (cases bn <;> rfl) | (cases b2 <;> cases bn <;> rfl)))
                              have HQ : Hid (a4 = wrap64 (A3 + sumR (fun n => tM mode R C x y k n) y (f + 1))) := HR.out _ (by rw [HV.out, HW.out])
                              clear HTv HR HV HW
                              go_wp2
                              go_round
                              case rel => exact ⟨f + 1, by have := HN.out; omega, by rw [← Nat.add_assoc, HN.out]; go_num, by rw [← HQ.out]⟩
                              case measure => simp [intOf]; omega
                            | true =>
                              have HV : Hid (tM mode R C x y k n = 0) := tM_no (HTv.out.trans (by first | rfl | (cases b2 <;> rfl) | (cases bn <;> rfl) | (cases b2 <;> cases bn <;> rfl)))
                              have HQ : Hid (a4 = wrap64 (A3 + sumR (fun n => tM mode R C x y k n) y (f + 1))) := HR.out _ (by rw [HV.out, HW.out])
                              clear HTv HR HV HW
                              go_wp2
                              go_round
                              case rel => exact ⟨f + 1, by have := HN.out; omega, by rw [← Nat.add_assoc, HN.out]; go_num, by rw [← HQ.out]⟩
                              case measure => simp [intOf]; omega
                        | true =>
                          cases b2 with
                          | false =>
                            cases bk with
                            | false =>
                              have HV : Hid (tM mode R C x y k n = 0) := tM_no (HTv.out.trans (by first | rfl | (cases b2 <;> rfl) | (cases bn <;> rfl) | (cases b2 <;> cases bn <;> rfl)))
                              have HQ : Hid (a4 = wrap64 (A3 + sumR (fun n => tM mode R C x y k n) y (f + 1))) := HR.out _ (by rw [HV.out, HW.out])
                              clear HTv HR HV HW
                              go_wp2
                              go_round
                              case rel => exact ⟨f + 1, by have := HN.out; omega, by rw [← Nat.add_assoc, HN.out]; go_num, by rw [← HQ.out]⟩
                              case measure => simp [intOf]; omega
                            | true =>
                              cases bn with
                              | false =>
                                have HV : Hid (tM mode R C x y k n = 0) := tM_no (HTv.out.trans (by first | rfl | (cases b2 <;> rfl) | (cases bn <;> rfl) | (cases b2 <;> cases bn <;> rfl)))
                                have HQ : Hid (a4 = wrap64 (A3 + sumR (fun n => tM mode R C x y k n) y (f + 1))) := HR.out _ (by rw [HV.out, HW.out])
                                clear HTv HR HV HW
                                go_wp2
                                go_round
                                case rel => exact ⟨f + 1, by have := HN.out; omega, by rw [← Nat.add_assoc, HN.out]; go_num, by rw [← HQ.out]⟩
                                case measure => simp [intOf]; omega
                              | true =>
                                have HV : Hid (tM mode R C x y k n = 0) := tM_no (HTv.out.trans (by first | rfl | (cases b2 <;> rfl) | (cases bn <;> rfl) | (cases b2 <;> cases bn <;> rfl)))
                                have HQ : Hid (a4 = wrap64 (A3 + sumR (fun n => tM mode R C x y k n) y (f + 1))) := HR.out _ (by rw [HV.out, HW.out])
                                clear HTv HR HV HW
                                go_wp2
                                go_round
                                case rel => exact ⟨f + 1, by have := HN.out; omega, by rw [← Nat.add_assoc, HN.out]; go_num, by rw [← HQ.out]⟩
                                case measure => simp [intOf]; omega
                          | true =>
                            cases bk with
                            | false =>
                              have HV : Hid (tM mode R C x y k n = dlI 8 ((k : Int) - x) ((n : Int) - y)) := tM_yes (HTv.out.trans rfl)
                              go_wp2_with fail
                              refine (many_calls 8 _ _ _ (by omega) (by omega) (by omega) (by decide)).mono ?_
                              rintro e w5 ⟨rfl, rfl⟩
                              rw [← HV.out]
                              generalize tM mode R C x y k n = tt at *
                              go_wp2
                              go_round
                              case rel => exact ⟨f + 1, by have := HN.out; omega, by rw [← Nat.add_assoc, HN.out]; go_num, by rw [← HR.out _ rfl]⟩
                              case measure => simp [intOf]; omega
                            | true =>
                              cases bn with
                              | false =>
                                have HV : Hid (tM mode R C x y k n = dlI 8 ((k : Int) - x) ((n : Int) - y)) := tM_yes (HTv.out.trans rfl)
                                go_wp2_with fail
                                refine (many_calls 8 _ _ _ (by omega) (by omega) (by omega) (by decide)).mono ?_
                                rintro e w5 ⟨rfl, rfl⟩
                                rw [← HV.out]
                                generalize tM mode R C x y k n = tt at *
                                go_wp2
                                go_round
                                case rel => exact ⟨f + 1, by have := HN.out; omega, by rw [← Nat.add_assoc, HN.out]; go_num, by rw [← HR.out _ rfl]⟩
                                case measure => simp [intOf]; omega
                              | true =>
                                have HV : Hid (tM mode R C x y k n = dlI 8 ((k : Int) - x) ((n : Int) - y)) := tM_yes (HTv.out.trans rfl)
                                go_wp2_with fail
                                refine (many_calls 8 _ _ _ (by omega) (by omega) (by omega) (by decide)).mono ?_
                                rintro e w5 ⟨rfl, rfl⟩
                                rw [← HV.out]
                                generalize tM mode R C x y k n = tt at *
                                go_wp2
                                go_round
                                case rel => exact ⟨f + 1, by have := HN.out; omega, by rw [← Nat.add_assoc, HN.out]; go_num, by rw [← HR.out _ rfl]⟩
                                case measure => simp [intOf]; omega
                      | false =>
                        cases bx with
                        | false =>
                          cases bk with
                          | false =>
                            have HV : Hid (tM mode R C x y k n = 0) := tM_no (HTv.out.trans (by first | rfl | (cases b2 <;> rfl) | (cases bn <;> rfl) | (cases b2 <;> cases bn <;> rfl)))
                            have HQ : Hid (a4 = wrap64 (A3 + sumR (fun n => tM mode R C x y k n) y (f + 1))) := HR.out _ (by rw [HV.out, HW.out])
                            clear HTv HR HV HW
                            go_wp2
                            go_round
                            case rel => exact ⟨f + 1, by have := HN.out; omega, by rw [← Nat.add_assoc, HN.out]; go_num, by rw [← HQ.out]⟩
                            case measure => simp [intOf]; omega
                          | true =>
                            cases bn with
                            | false =>
                              have HV : Hid (tM mode R C x y k n = 0) := tM_no (HTv.out.trans (by first | rfl | (cases b2 <;> rfl) | (cases bn <;> rfl) | (cases b2 <;> cases bn <;> rfl)))
                              have HQ : Hid (a4 = wrap64 (A3 + sumR (fun n => tM mode R C x y k n) y (f + 1))) := HR.out _ (by rw [HV.out, HW.out])
                              clear HTv HR HV HW
                              go_wp2
                              go_round
                              case rel => exact ⟨f + 1, by have := HN.out; omega, by rw [← Nat.add_assoc, HN.out]; go_num, by rw [← HQ.out]⟩
                              case measure => simp [intOf]; omega
                            | true =>
                              have HV : Hid (tM mode R C x y k n = 0) := tM_no (HTv.out.trans (by first | rfl | (cases b2 <;> rfl) | (cases bn <;> rfl) | (cases b2 <;> cases bn <;> rfl)))
                              have HQ : Hid (a4 = wrap64 (A3 + sumR (fun n => tM mode R C x y k n) y (f + 1))) := HR.out _ (by rw [HV.out, HW.out])
                              clear HTv HR HV HW
                              go_wp2
                              go_round
                              case rel => exact ⟨f + 1, by have := HN.out; omega, by rw [← Nat.add_assoc, HN.out]; go_num, by rw [← HQ.out]⟩
                              case measure => simp [intOf]; omega
                        | true =>
                          cases b2 with
                          | false =>
                            cases bk with
                            | false =>
                              have HV : Hid (tM mode R C x y k n = 0) := tM_no (HTv.out.trans (by first | rfl | (cases b2 <;> rfl) | (cases bn <;> rfl) | (cases b2 <;> cases bn <;> rfl)))
                              have HQ : Hid (a4 = wrap64 (A3 + sumR (fun n => tM mode R C x y k n) y (f + 1))) := HR.out _ (by rw [HV.out, HW.out])
                              clear HTv HR HV HW
                              go_wp2
                              go_round
                              case rel => exact ⟨f + 1, by have := HN.out; omega, by rw [← Nat.add_assoc, HN.out]; go_num, by rw [← HQ.out]⟩
                              case measure => simp [intOf]; omega
                            | true =>
                              cases bn with
                              | false =>
                                have HV : Hid (tM mode R C x y k n = 0) := tM_no (HTv.out.trans (by first | rfl | (cases b2 <;> rfl) | (cases bn <;> rfl) | (cases b2 <;> cases bn <;> rfl)))
                                have HQ : Hid (a4 = wrap64 (A3 + sumR (fun n => tM mode R C x y k n) y (f + 1))) := HR.out _ (by rw [HV.out, HW.out])
                                clear HTv HR HV HW
                                go_wp2
                                go_round
                                case rel => exact ⟨f + 1, by have := HN.out; omega, by rw [← Nat.add_assoc, HN.out]; go_num, by rw [← HQ.out]⟩
                                case measure => simp [intOf]; omega
                              | true =>
                                have HV : Hid (tM mode R C x y k n = 0) := tM_no (HTv.out.trans (by first | rfl | (cases b2 <;> rfl) | (cases bn <;> rfl) | (cases b2 <;> cases bn <;> rfl)))
                                have HQ : Hid (a4 = wrap64 (A3 + sumR (fun n => tM mode R C x y k n) y (f + 1))) := HR.out _ (by rw [HV.out, HW.out])
                                clear HTv HR HV HW
                                go_wp2
                                go_round
                                case rel => exact ⟨f + 1, by have := HN.out; omega, by rw [← Nat.add_assoc, HN.out]; go_num, by rw [← HQ.out]⟩
                                case measure => simp [intOf]; omega
                          | true =>
                            cases bk with
                            | false =>
                              have HV : Hid (tM mode R C x y k n = 0) := tM_no (HTv.out.trans (by first | rfl | (cases b2 <;> rfl) | (cases bn <;> rfl) | (cases b2 <;> cases bn <;> rfl)))
                              have HQ : Hid (a4 = wrap64 (A3 + sumR (fun n => tM mode R C x y k n) y (f + 1))) := HR.out _ (by rw [HV.out, HW.out])
                              clear HTv HR HV HW
                              go_wp2
                              go_round
                              case rel => exact ⟨f + 1, by have := HN.out; omega, by rw [← Nat.add_assoc, HN.out]; go_num, by rw [← HQ.out]⟩
                              case measure => simp [intOf]; omega
                            | true =>
                              cases bn with
                              | false =>
                                have HV : Hid (tM mode R C x y k n = 0) := tM_no (HTv.out.trans (by first | rfl | (cases b2 <;> rfl) | (cases bn <;> rfl) | (cases b2 <;> cases bn <;> rfl)))
                                have HQ : Hid (a4 = wrap64 (A3 + sumR (fun n => tM mode R C x y k n) y (f + 1))) := HR.out _ (by rw [HV.out, HW.out])
                                clear HTv HR HV HW
                                go_wp2
                                go_round
                                case rel => exact ⟨f + 1, by have := HN.out; omega, by rw [← Nat.add_assoc, HN.out]; go_num, by rw [← HQ.out]⟩
                                case measure => simp [intOf]; omega
                              | true =>
                                have HV : Hid (tM mode R C x y k n = dlI 8 ((k : Int) - x) ((n : Int) - y)) := tM_yes (HTv.out.trans rfl)
                                go_wp2_with fail
                                refine (many_calls 8 _ _ _ (by omega) (by omega) (by omega) (by decide)).mono ?_
                                rintro e w5 ⟨rfl, rfl⟩
                                rw [← HV.out]
                                generalize tM mode R C x y k n = tt at *
                                go_wp2
                                go_round
                                case rel => exact ⟨f + 1, by have := HN.out; omega, by rw [← Nat.add_assoc, HN.out]; go_num, by rw [← HR.out _ rfl]⟩
                                case measure => simp [intOf]; omega
                · have d4 : decide ((n : Int) ≤ (C : Int)) = false := by simp; omega
                  have HR4 : Hid (wrap64 A4 = wrap64 (A2 + sumR (fun k => s4 mode R C x y k) x (d + 1))) := by
                    have : f = C + 1 - y := by omega
                    show _ = _
                    rw [HA3.out, ← HL4.out, this]
                    rfl
                  rw [HR4.out]
                  clear HR4 HL4 HA4 hn hf
                  go_wp2
                  go_round
                  case rel => exact ⟨d + 1, by have := HK.out; omega, by rw [← Nat.add_assoc, HK.out]; go_num, rfl⟩
                  case measure => simp [intOf]; omega
            · have d3 : decide ((k : Int) ≤ (R : Int)) = false := by simp; omega
              have HR4 : Hid (wrap64 A3 = wrap64 (A1 + sumR (fun j => s3 mode R C x j) 0 (y + 1))) := by
                have : d = R + 1 - x := by omega
                show _ = _
                rw [HA2.out, ← HL3.out, this]
                rfl
              rw [HR4.out]
              clear HR4 HL3 HA3 hk hd
              go_wp2
              go_round
              case rel => exact ⟨y + 1, by omega, by go_num, rfl⟩
              case measure => simp [intOf]; omega
        · have d2 : decide ((y : Int) ≤ (C : Int)) = false := by simp; omega
          have HR4 : Hid (wrap64 A2 = wrap64 (sumR (fun i => s2 mode R C i) 0 (x + 1))) := by
            have : y = C + 1 := by omega
            show _ = _
            rw [HA1.out, ← HL2.out, this]
            rfl
          rw [HR4.out]
          clear HR4 HL2 HA2
          go_wp2
          go_round
          case rel => exact ⟨x + 1, by omega, by go_num, rfl⟩
          case measure => simp [intOf]; omega
    · have d1 : decide ((x : Int) ≤ (R : Int)) = false := by simp; omega
      have HF : Hid (wrap64 A1 = (len : Int)) := by
        have : x = R + 1 := by omega
        show _ = _
        rw [← HL1.out, this]
        have h1 := HL.out.1
        have h2 := HL.out.2
        rw [show sumR (fun i => s2 mode R C i) 0 (R + 1) = s1 mode R C from rfl, ← h1]
        unfold wrap64
        omega
      rw [HF.out]
      have e9 : ((len : Int) == (len : Int)) = true := beq_self_eq_true _
      clear HF HL HA1 HL1
      go_wp2
      go_ret
      exact ⟨rfl, HB4.out⟩

set_option maxRecDepth 20000 in
theorem many_walk (r c mode : Int) (w : World) : Calls Try.prog 5 #[.int .i64 r, .int .i64 c, .int .i64 mode] w fun e w' => e = .returned (.bool true) ∧ Below w.heap.size w w' := by
  by_cases hin : 0 ≤ r ∧ 0 ≤ c ∧ r ≤ 4 ∧ c ≤ 4 ∧ 1 ≤ mode ∧ mode ≤ 4
  · obtain ⟨h1, h2, h3, h4, h5, h6⟩ := hin
    obtain ⟨R, rfl⟩ := Int.eq_ofNat_of_zero_le h1
    obtain ⟨C, rfl⟩ := Int.eq_ofNat_of_zero_le h2
    exact many_in R C mode w (by omega) (by omega) h5 h6
  have HIn : Hid (¬ (0 ≤ r ∧ 0 ≤ c ∧ r ≤ 4 ∧ c ≤ 4 ∧ 1 ≤ mode ∧ mode ≤ 4)) := hin
  clear hin
  go_enter Try.func5, Try.ntmps5
  go_wp2_with fail
  refine (awake_calls _).mono ?_
  rintro e w1 ⟨rfl, hb1⟩
  have HB : Hid (Below w.heap.size w w1) := hb1
  clear hb1
  by_cases h1 : r < 0
  · go_wp2
    go_ret
    exact ⟨rfl, HB.out⟩
  by_cases h2 : c < 0
  · go_wp2
    go_ret
    exact ⟨rfl, HB.out⟩
  by_cases h3 : 4 < r
  · go_wp2
    go_ret
    exact ⟨rfl, HB.out⟩
  by_cases h4 : 4 < c
  · go_wp2
    go_ret
    exact ⟨rfl, HB.out⟩
  by_cases h5 : mode < 1
  · go_wp2
    go_ret
    exact ⟨rfl, HB.out⟩
  by_cases h6 : 4 < mode
  · go_wp2
    go_ret
    exact ⟨rfl, HB.out⟩
  exact absurd ⟨by omega, by omega, by omega, by omega, by omega, by omega⟩ HIn.out

namespace pathMany
open Go.ChangeShapes Go.WideShapes Go.ChangeAt Go.RowKit
open Go.ChangeMaps (open_string shut_string)
theorem own : ownKnob Try.prog.godebug = none := by kernel_rfl
theorem laidOut : laidOutB Try.prog = true := by kernel_rfl
set_option maxRecDepth 100000 in
theorem lifted (os : Os) (started : os.Started) (H : Type) (enc : TypeId × Value → H) :
    ReturnsInHanded {} Try.checked os 5 .any (Rows.pathManySpec.pre6 enc Try.prog Try.f5 Rows.pathManyRow.domain false) (Rows.pathManySpec.post enc Try.prog Try.f5 false true false false) := by
  refine returnsInHanded_of_change_sized (C := Try.checked) own started (by kernel_rfl) Try.func5
    (ChangeSpec.witness6 (enc := enc) (C := Try.checked) false ⟨#[], #[.int .i64 0, .int .i64 0, .int .i64 0], []⟩ 8 (by kernel_rfl) (by kernel_rfl) (by kernel_rfl) (by kernel_rfl)) ?_
  intro W base args ds gs before hval0 hW _ hsz0 _
  have hval : ∀ (j : Nat) t v, Try.f5.params[j]? = some t → args[j]? = some v → Value.okWide Try.prog W .any base t v := hval0
  have hsz : (DataW.weightsEach Try.prog (Try.f5.params.toList ++ Rows.pathManySpec.plain.varTypes Try.prog) (ds ++ gs)).all (· ≤ reachBytes) = true := hsz0
  have hW' := hW
  obtain ⟨p, q, hA0, hV, rfl, hfz, hnd⟩ := hW
  have hA : DataW.TrodAll enc Try.prog W 0 (fun _ => true) true Try.f5.params.toList args.toList ds p := hA0
  rw [Try.params5] at hA hval hsz
  obtain ⟨v0, vs0, d0, ds0, p0, q0, hargs, rfl, rfl, h0, r0⟩ := trodAll_cons hA
  obtain ⟨v1, vs1, d1, ds1, p1, q1, rfl, rfl, rfl, h1, r1⟩ := trodAll_cons r0
  obtain ⟨v2, vs2, d2, ds2, p2, q2, rfl, rfl, rfl, h2, r2⟩ := trodAll_cons r1
  obtain ⟨rfl, rfl, rfl⟩ := trodAll_nil r2
  obtain rfl : args = #[v0, v1, v2] := by cases args; simp_all
  obtain ⟨rfl, rfl⟩ := trodVars_none hV
  have hw : ∀ (j : Nat) (t : TypeId) (d : DataW H), ([3, 3, 3] ++ Rows.pathManySpec.plain.varTypes Try.prog)[j]? = some t → ([d0, d1, d2] ++ [])[j]? = some d → ∀ n ∈ d.weights Try.prog t, n ≤ reachBytes := fun j t d ht hd n hn =>
    of_decide_eq_true (List.all_eq_true.1 hsz _ (DataW.weights_mem_each ht hd n hn))
  obtain ⟨a0, rfl, rfl, rfl, w0⟩ := open_int Try.underlying3 (hval 0 3 v0 rfl rfl) h0
  obtain ⟨a1, rfl, rfl, rfl, w1⟩ := open_int Try.underlying3 (hval 1 3 v1 rfl rfl) h1
  obtain ⟨a2, rfl, rfl, rfl, w2⟩ := open_int Try.underlying3 (hval 2 3 v2 rfl rfl) h2
  clear hA0 hval0
  refine (many_walk a0 a1 a2 W ).mono fun e W' ⟨he, bel⟩ => ?_
  subst he
  exact ⟨_, rfl, _, _, _, [], _, [], hW', trodAll_mk1 (shut_bool Try.underlying4 _), (trodAll_cons_mk (shut_int Try.underlying3 w0) (trodAll_cons_mk (shut_int Try.underlying3 w1) (trodAll_cons_mk (shut_int Try.underlying3 w2) trodAll_mk0))), rfl, bel.frame _, fun h => by cases h⟩
end pathMany

theorem pathMany_holds : Rows.PathManySaid :=
  OpenClaim.holds_of_wide 5 Try.f5 rfl rfl rfl rfl rfl rfl rfl ⟨rfl, rfl, rfl, rfl, rfl⟩ rfl rfl rfl rfl rfl (by kernel_rfl) Try.func5 (by kernel_rfl)
    (of_decide_eq_true (by kernel_rfl)) (by unfold Func.isWrapper; first | (rw [if_pos (by decide +kernel)]; kernel_rfl) | (rw [if_neg (by decide +kernel)]; exact ⟨rfl, rfl⟩))
    (fun os started H enc _ => pathMany.lifted os started H enc)

end Go.Proofs.Ytegndeefddlccab
