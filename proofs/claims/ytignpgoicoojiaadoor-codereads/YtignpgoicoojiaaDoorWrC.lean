/-
  The walks of the document's number and numbers; check and the document's Check.
-/
import Derived.Test.YtignpgoicoojiaaDoorWrB
namespace Go.Proofs.YtignpgoicoojiaaDoor
open Go.RowKit

theorem low_digit' (m : Nat) : ((UInt8.ofNat (m % 128 + 128)).toNat : Int) = (128 + (m : Int) % 128) := by
  rw [byte_of _ (by omega)]; omega

set_option maxHeartbeats 2000000 in
theorem refNumber_loop (B : Nat) (acc : List UInt8) (av : Option Addr) (cv : Nat) (z : Int) (w : World) (hv : w.ownsRow B 5 1 (.slice av acc.length cv) acc.length (byteVals acc)) (hB : B ≤ w.heap.size) (hn : okN z) (hlen : acc.length + 9 ≤ 1099511627776) :
    Calls Tryd.prog 33 #[.slice av acc.length cv, .int .i64 z] w fun e w' => ∃ v', e = .returned v' ∧ BufAt B (acc ++ numB z) v' w w' ∧ ∀ (ao : Option Addr) (len : Nat) (zs : List Int), IntsB B w ao len zs → IntsB B w' ao len zs := by
  obtain ⟨i0, hi, hz0, hz1, hz2⟩ := info_parts info5
  have hdl := dbl_le hn
  have hnl := numB_len hn
  obtain ⟨m0, hm0⟩ : ∃ m0, dbl z = m0 := ⟨_, rfl⟩
  obtain ⟨goal, hgoal⟩ : ∃ g, acc ++ numB z = g := ⟨_, rfl⟩
  have hlg : goal.length ≤ acc.length + 9 := by rw [← hgoal]; simp; omega
  have H0 : Hid (BufAt B acc (.slice av acc.length cv) w w ∧ acc ++ digs m0 = goal) := ⟨⟨hv, Below.refl _ _⟩, by rw [← hgoal, ← hm0]; rfl⟩
  have HQ : Hid (acc ++ numB z = goal) := hgoal
  have hzz : (z < 0 → -(2 * z) - 1 = (m0 : Int)) ∧ (¬ z < 0 → 2 * z = (m0 : Int)) := by
    rw [← hm0]; unfold dbl
    refine ⟨fun h => ?_, fun h => ?_⟩
    · rw [if_pos h]; omega
    · rw [if_neg h]; omega
  rw [hm0] at hdl
  rw [hgoal]
  unfold okN at hn
  clear hv hm0 hgoal hnl
  by_cases h0 : z < 0
  · have hz1' := hzz.1 h0
    clear hzz
    go_enter Tryd.func33, Tryd.ntmps33
    go_wp2
    go_loopw [0, 5] (fun v r wq => ∃ (m : Nat) (ac : List UInt8), m ≤ 2305843009213693952 ∧ r = .int .i64 m ∧ BufAt B ac v w wq ∧ (∀ (ao : Option Addr) (len : Nat) (zs : List Int), IntsB B w ao len zs → IntsB B wq ao len zs) ∧ Hid (ac ++ digs m = goal)) (fun _ r _ => (intOf r).toNat)
    case atStart => exact ⟨m0, acc, hdl, rfl, H0.out.1, fun _ _ _ h => h, H0.out.2⟩
    case round =>
      obtain ⟨m, ac, hm2, rfl, hbk, hin, HG⟩ := hrel
      obtain ⟨ak, cak, rfl⟩ := owned_shape hbk.1
      have hsk := hbk.2.size
      have hla : ac.length + 1 ≤ goal.length := by
        have := congrArg List.length HG.out
        have h1 := digs_pos m
        simp at this; omega
      have HBk : Hid (BufAt B ac (.slice ak ac.length cak) w wr ∧ ∀ (ao : Option Addr) (len : Nat) (zs : List Int), IntsB B w ao len zs → IntsB B wr ao len zs) := ⟨hbk, hin⟩
      clear hbk hin H0
      by_cases h128 : m < 128
      · have hdm : decide ((127 : Int) < (m : Int)) = false := by simp; omega
        have HG2 : Hid (ac ++ [UInt8.ofNat m] = goal) := by have := HG.out; rw [digs_small h128] at this; exact this
        have hbm := byte_of m (by omega)
        clear HG
        generalize UInt8.ofNat m = c at HG2 hbm
        go_wp2_with (at_builtin; go_loud (refine wpList_append_own _ rfl _ _ 42 rfl B 5 i0 (.int .u8 0) 1 1 Tryd.underlying42 hi hz0 hz1 hz2 rfl (by decide) (.slice ak ac.length cak) _ _ rfl (HBk.out.1.1.alloc _) ⟨_, 0, none⟩ 1 1 [.int .u8 (c.toNat : Int)] rfl rfl ?c1 (one_cell c) ?c3 ?c4 ?c5 ?_))
        case c1 =>
          intro i u hu
          match i, hu with
          | 0, hu => simp at hu; subst hu; simp [Addr.add, hbm]
        case c3 => unfold maxLen; omega
        case c4 => omega
        case c5 => simp; omega
        intro v' w3 hown' hgrow _
        have HB3 : Hid (BufAt B (ac ++ [c]) v' w w3 ∧ ∀ (ao : Option Addr) (len : Nat) (zs : List Int), IntsB B w ao len zs → IntsB B w3 ao len zs) := ⟨HBk.out.1.snoc (by omega) (by rw [hbm]; exact hown') hgrow, fun ao len zs h => ((HBk.out.2 ao len zs h).alloc _).grown (HBk.out.1.1.alloc _) hgrow⟩
        clear hown' hgrow
        go_wp2
        go_ret
        exact ⟨v', rfl, by rw [← HG2.out]; exact HB3.out.1, HB3.out.2⟩
      · have hdm : decide ((127 : Int) < (m : Int)) = true := by simp; omega
        have HG2 : Hid (ac ++ [UInt8.ofNat (m % 128 + 128)] ++ digs (m / 128) = goal) := by have := HG.out; rw [digs_big h128] at this; rw [← this]; show _ = _; simp
        have hbm := low_digit' m
        clear HG
        generalize UInt8.ofNat (m % 128 + 128) = c at HG2 hbm
        go_wp2_with (at_builtin; go_loud (refine wpList_append_own _ rfl _ _ 42 rfl B 5 i0 (.int .u8 0) 1 1 Tryd.underlying42 hi hz0 hz1 hz2 rfl (by decide) (.slice ak ac.length cak) _ _ rfl (HBk.out.1.1.alloc _) ⟨_, 0, none⟩ 1 1 [.int .u8 (c.toNat : Int)] rfl rfl ?c1 (one_cell c) ?c3 ?c4 ?c5 ?_))
        case c1 =>
          intro i u hu
          match i, hu with
          | 0, hu => simp at hu; subst hu; simp [Addr.add, hbm]
        case c3 => unfold maxLen; omega
        case c4 => omega
        case c5 => simp; omega
        intro v' w3 hown' hgrow _
        have HB3 : Hid (BufAt B (ac ++ [c]) v' w w3 ∧ ∀ (ao : Option Addr) (len : Nat) (zs : List Int), IntsB B w ao len zs → IntsB B w3 ao len zs) := ⟨HBk.out.1.snoc (by omega) (by rw [hbm]; exact hown') hgrow, fun ao len zs h => ((HBk.out.2 ao len zs h).alloc _).grown (HBk.out.1.1.alloc _) hgrow⟩
        clear hown' hgrow
        go_wp2
        go_roundw
        case rel => exact ⟨m / 128, ac ++ [c], by omega, by go_num, HB3.out.1, HB3.out.2, HG2.out⟩
        case measure => simp [intOf]; omega
  · have hz1' := hzz.2 h0
    clear hzz
    go_enter Tryd.func33, Tryd.ntmps33
    go_wp2
    go_loopw [0, 5] (fun v r wq => ∃ (m : Nat) (ac : List UInt8), m ≤ 2305843009213693952 ∧ r = .int .i64 m ∧ BufAt B ac v w wq ∧ (∀ (ao : Option Addr) (len : Nat) (zs : List Int), IntsB B w ao len zs → IntsB B wq ao len zs) ∧ Hid (ac ++ digs m = goal)) (fun _ r _ => (intOf r).toNat)
    case atStart => exact ⟨m0, acc, hdl, rfl, H0.out.1, fun _ _ _ h => h, H0.out.2⟩
    case round =>
      obtain ⟨m, ac, hm2, rfl, hbk, hin, HG⟩ := hrel
      obtain ⟨ak, cak, rfl⟩ := owned_shape hbk.1
      have hsk := hbk.2.size
      have hla : ac.length + 1 ≤ goal.length := by
        have := congrArg List.length HG.out
        have h1 := digs_pos m
        simp at this; omega
      have HBk : Hid (BufAt B ac (.slice ak ac.length cak) w wr ∧ ∀ (ao : Option Addr) (len : Nat) (zs : List Int), IntsB B w ao len zs → IntsB B wr ao len zs) := ⟨hbk, hin⟩
      clear hbk hin H0
      by_cases h128 : m < 128
      · have hdm : decide ((127 : Int) < (m : Int)) = false := by simp; omega
        have HG2 : Hid (ac ++ [UInt8.ofNat m] = goal) := by have := HG.out; rw [digs_small h128] at this; exact this
        have hbm := byte_of m (by omega)
        clear HG
        generalize UInt8.ofNat m = c at HG2 hbm
        go_wp2_with (at_builtin; go_loud (refine wpList_append_own _ rfl _ _ 42 rfl B 5 i0 (.int .u8 0) 1 1 Tryd.underlying42 hi hz0 hz1 hz2 rfl (by decide) (.slice ak ac.length cak) _ _ rfl (HBk.out.1.1.alloc _) ⟨_, 0, none⟩ 1 1 [.int .u8 (c.toNat : Int)] rfl rfl ?c1 (one_cell c) ?c3 ?c4 ?c5 ?_))
        case c1 =>
          intro i u hu
          match i, hu with
          | 0, hu => simp at hu; subst hu; simp [Addr.add, hbm]
        case c3 => unfold maxLen; omega
        case c4 => omega
        case c5 => simp; omega
        intro v' w3 hown' hgrow _
        have HB3 : Hid (BufAt B (ac ++ [c]) v' w w3 ∧ ∀ (ao : Option Addr) (len : Nat) (zs : List Int), IntsB B w ao len zs → IntsB B w3 ao len zs) := ⟨HBk.out.1.snoc (by omega) (by rw [hbm]; exact hown') hgrow, fun ao len zs h => ((HBk.out.2 ao len zs h).alloc _).grown (HBk.out.1.1.alloc _) hgrow⟩
        clear hown' hgrow
        go_wp2
        go_ret
        exact ⟨v', rfl, by rw [← HG2.out]; exact HB3.out.1, HB3.out.2⟩
      · have hdm : decide ((127 : Int) < (m : Int)) = true := by simp; omega
        have HG2 : Hid (ac ++ [UInt8.ofNat (m % 128 + 128)] ++ digs (m / 128) = goal) := by have := HG.out; rw [digs_big h128] at this; rw [← this]; show _ = _; simp
        have hbm := low_digit' m
        clear HG
        generalize UInt8.ofNat (m % 128 + 128) = c at HG2 hbm
        go_wp2_with (at_builtin; go_loud (refine wpList_append_own _ rfl _ _ 42 rfl B 5 i0 (.int .u8 0) 1 1 Tryd.underlying42 hi hz0 hz1 hz2 rfl (by decide) (.slice ak ac.length cak) _ _ rfl (HBk.out.1.1.alloc _) ⟨_, 0, none⟩ 1 1 [.int .u8 (c.toNat : Int)] rfl rfl ?c1 (one_cell c) ?c3 ?c4 ?c5 ?_))
        case c1 =>
          intro i u hu
          match i, hu with
          | 0, hu => simp at hu; subst hu; simp [Addr.add, hbm]
        case c3 => unfold maxLen; omega
        case c4 => omega
        case c5 => simp; omega
        intro v' w3 hown' hgrow _
        have HB3 : Hid (BufAt B (ac ++ [c]) v' w w3 ∧ ∀ (ao : Option Addr) (len : Nat) (zs : List Int), IntsB B w ao len zs → IntsB B w3 ao len zs) := ⟨HBk.out.1.snoc (by omega) (by rw [hbm]; exact hown') hgrow, fun ao len zs h => ((HBk.out.2 ao len zs h).alloc _).grown (HBk.out.1.1.alloc _) hgrow⟩
        clear hown' hgrow
        go_wp2
        go_roundw
        case rel => exact ⟨m / 128, ac ++ [c], by omega, by go_num, HB3.out.1, HB3.out.2, HG2.out⟩
        case measure => simp [intOf]; omega

set_option maxHeartbeats 2000000 in
theorem refNumbers_calls (B : Nat) (acc : List UInt8) (av : Option Addr) (cv : Nat) (ao : Option Addr) (len cap : Nat) (zs : List Int) (w : World) (hv : w.ownsRow B 5 1 (.slice av acc.length cv) acc.length (byteVals acc)) (hB : B ≤ w.heap.size) (hz : IntsB B w ao len zs) (hn : ∀ z ∈ zs, okN z) (hlen : acc.length + 9 * len ≤ 1099511627776) :
    Calls Tryd.prog 32 #[.slice av acc.length cv, .slice ao len cap] w fun e w' => ∃ v', e = .returned v' ∧ BufAt B (acc ++ numsB zs) v' w w' := by
  have hm := hz.at'.short
  unfold maxLen at hm
  have HL : Hid (zs.length = len) := hz.at'.length
  have HN : Hid (∀ z ∈ zs, okN z) := hn
  have H0 : Hid (BufAt B (acc ++ numsB (zs.take 0)) (.slice av acc.length cv) w w ∧ IntsB B w ao len zs) := by
    refine ⟨⟨?_, Below.refl _ _⟩, hz⟩
    simpa [numsB] using hv
  clear hv hz hn
  go_enter Tryd.func32, Tryd.ntmps32
  go_wp2
  go_loopw [0, 5] (fun v i wq => ∃ k : Nat, k ≤ len ∧ i = .int .i64 k ∧ BufAt B (acc ++ numsB (zs.take k)) v w wq ∧ IntsB B wq ao len zs) (fun _ i _ => len - (intOf i).toNat)
  case atStart => exact ⟨0, Nat.zero_le _, rfl, H0.out.1, H0.out.2⟩
  case round =>
    obtain ⟨k, hk, rfl, hbu, hin⟩ := hrel
    clear H0
    have hsz : w.heap.size ≤ wr.heap.size := hbu.2.size
    by_cases hlt : k < len
    · obtain ⟨b, off, rfl, hcs⟩ := hin.at'.cells (by omega)
      have hc1 := hcs k hlt
      clear hcs
      have HT : Hid (acc ++ numsB (zs.take (k + 1)) = acc ++ numsB (zs.take k) ++ numB (zs.getD k 0)) := by
        show _ = _
        rw [numsB_take (by rw [HL.out]; exact hlt), List.append_assoc]
      have hok : okN (zs.getD k 0) := HN.out _ (by
        have : k < zs.length := by rw [HL.out]; exact hlt
        simp [List.getD, List.getElem?_eq_getElem this])
      have hl1 : (acc ++ numsB (zs.take k)).length ≤ acc.length + 9 * k := by
        have := numsB_len (l := zs.take k) (fun z hz => HN.out z (List.mem_of_mem_take hz))
        simp at this ⊢; omega
      generalize zs.getD k 0 = z at hc1 HT hok
      generalize acc ++ numsB (zs.take k) = bc at hbu hl1 HT
      obtain ⟨ak, cak, rfl⟩ := owned_shape hbu.1
      have HD := refNumber_loop B bc ak cak z wr hbu.1 (by omega) hok (by omega)
      have HDD : Hid (Calls Tryd.prog 33 #[.slice ak bc.length cak, .int .i64 z] wr fun e w' => ∃ v', e = .returned v' ∧ BufAt B (bc ++ numB z) v' wr w' ∧ ∀ (ao : Option Addr) (len : Nat) (zs : List Int), IntsB B wr ao len zs → IntsB B w' ao len zs) := HD
      have HI : Hid (IntsB B wr (some ⟨b, off, none⟩) len zs ∧ Below B w wr) := ⟨hin, hbu.2⟩
      clear hbu hin hok HD
      go_wp2_with (go_at_call 33; refine HDD.out.mono ?_; rintro e w1 ⟨v1, rfl, hb1, hkp⟩)
      have HB1 : Hid (BufAt B (bc ++ numB z) v1 w w1 ∧ IntsB B w1 (some ⟨b, off, none⟩) len zs) := ⟨⟨hb1.1, HI.out.2.trans hb1.2⟩, hkp _ _ _ HI.out.1⟩
      clear hb1 hkp
      go_roundw
      case rel => exact ⟨k + 1, by omega, by go_num, by rw [HT.out]; exact HB1.out.1, HB1.out.2⟩
      case measure => simp [intOf]; omega
    · have HE : Hid (zs.take k = zs) := List.take_of_length_le (by rw [HL.out]; omega)
      obtain ⟨ak, cak, rfl⟩ := owned_shape hbu.1
      have HBu : Hid (BufAt B (acc ++ numsB zs) (.slice ak (acc ++ numsB (zs.take k)).length cak) w wr) := by
        have := hbu
        rw [HE.out] at this ⊢
        exact this
      clear hbu hin
      go_wp2
      go_ret
      exact ⟨_, rfl, HBu.out⟩
end Go.Proofs.YtignpgoicoojiaaDoor
