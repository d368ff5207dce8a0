/-
  The walks of halved, number, upTo, numbers.
-/
import Derived.Test.YtignpgoicoojiaaDoorRdA
namespace Go.Proofs.YtignpgoicoojiaaDoor
open Go.RowKit

set_option maxHeartbeats 1000000 in
theorem halved_calls (m : Nat) (w : World) (h : m < 9223372036854775808) : Calls Tryd.prog 64 #[.int .u64 (m : Int)] w fun e w' => e = .returned (.int .i64 (hlv m)) ∧ w = w' := by
  by_cases h0 : m % 2 = 1
  · have HE : Hid (hlv m = -((m : Int) / 2) - 1) := by show _ = _; unfold hlv; rw [if_pos h0]; omega
    have hd : (((m : Int) % 2) == 1) = true := by simp; omega
    go_enter Tryd.func64, Tryd.ntmps64
    go_wp2
    go_ret
    exact ⟨ret_int (by rw [HE.out]), rfl⟩
  · have HE : Hid (hlv m = (m : Int) / 2) := by show _ = _; unfold hlv; rw [if_neg h0]; omega
    have hd : (((m : Int) % 2) == 1) = false := by simp; omega
    go_enter Tryd.func64, Tryd.ntmps64
    go_wp2
    go_ret
    exact ⟨ret_int (by rw [HE.out]), rfl⟩

/-- What is read, so far as it may be called on. -/
theorem pow_bd : ∀ k, k ≤ 8 → 128 ^ k ≤ 72057594037927936 ∧ 0 < 128 ^ k := fun k hk => by
  match k, hk with
  | 0, _ | 1, _ | 2, _ | 3, _ | 4, _ | 5, _ | 6, _ | 7, _ | 8, _ => decide
  | k + 9, h => omega
theorem pow7 (k : Nat) : (2 : Nat) ^ (7 * k) = 128 ^ k := by rw [Nat.pow_mul]
theorem numGo_go {t : List UInt8} {f k n : Nat} {s : Sr} (h : 128 ≤ (nextR t s).1.toNat) : numGo t (f + 1) k n s = numGo t f (k + 1) (n + (nextR t s).1.toNat % 128 * 128 ^ k) (nextR t s).2 := by
  rw [numGo, if_pos h]
theorem numGo_end {t : List UInt8} {f k n : Nat} {s : Sr} (h : ¬ 128 ≤ (nextR t s).1.toNat) : numGo t (f + 1) k n s = (hlv (n + (nextR t s).1.toNat % 128 * 128 ^ k), ((nextR t s).2.1, (nextR t s).2.2 || (decide ((nextR t s).1.toNat = 0) && decide (0 < k)))) := by
  rw [numGo, if_neg h]

theorem shl_val {n dn pw k : Nat} (hsh : (2 : Nat) ^ (7 * k) = pw) (hn : n < pw) (hpw : pw ≤ 72057594037927936) : IntKind.u64.wrap ((n : Int) + IntKind.u64.wrap ((dn : Int) % 128 * 2 ^ (7 * k))) = ((n + dn % 128 * pw : Nat) : Int) := by
  have h1 : ((2 : Int) ^ (7 * k)) = (pw : Int) := by rw [← hsh]; simp
  have h2 : dn % 128 * pw ≤ 127 * pw := Nat.mul_le_mul_right _ (by omega)
  have h3 : (dn : Int) % 128 * (pw : Int) = ((dn % 128 * pw : Nat) : Int) := by simp
  rw [h1, h3, IntKind.wrap_u64, IntKind.wrap_u64]
  generalize dn % 128 * pw = q at *
  omega
theorem nxt_lt {n dn pw : Nat} (hn : n < pw) : n + dn % 128 * pw < 128 * pw := by
  have h2 : dn % 128 * pw ≤ 127 * pw := Nat.mul_le_mul_right _ (by omega)
  omega

set_option maxRecDepth 5000 in
set_option maxHeartbeats 2000000 in
theorem number_calls (b : Nat) (s : ByteArray) (st : Sr) (w : World) (h : Rd w b s st) :
    Calls Tryd.prog 55 #[.pointer (some ⟨b, 0, none⟩)] w fun e w' => e = .returned (.int .i64 (numR s.data.toList st).1) ∧ Rd w' b s (numR s.data.toList st).2 ∧ w.grownBy w' (some b) := by
  have HR : Hid (Rd w b s st) := h
  clear h
  obtain ⟨goal, hgoal⟩ : ∃ g, numR s.data.toList st = g := ⟨_, rfl⟩
  rw [hgoal]
  have H0 : Hid (numGo s.data.toList (9 - 0) 0 0 st = goal) := hgoal
  clear hgoal
  go_enter Tryd.func55, Tryd.ntmps55
  go_wp2
  go_loopw [3, 4, 5, 6] (fun x _ _ i wq => ∃ (k n : Nat) (sk : Sr), k ≤ 9 ∧ i = .int .i64 k ∧ x = .int .u64 n ∧ n < 128 ^ k ∧ Rd wq b s sk ∧ w.grownBy wq (some b) ∧ Hid (numGo s.data.toList (9 - k) k n sk = goal)) (fun _ _ _ i _ => 9 - (intOf i).toNat)
  case atStart => exact ⟨0, 0, st, by omega, rfl, rfl, by decide, HR.out, grown_refl _ _, H0.out⟩
  case round =>
    obtain ⟨k, n, sk, hk, rfl, rfl, hn, hrd, hgr, HG⟩ := hrel
    have HRd : Hid (Rd wr b s sk ∧ w.grownBy wr (some b)) := ⟨hrd, hgr⟩
    clear hrd hgr H0 HR
    by_cases hlt : k < 9
    · have hpw := pow_bd k (by omega)
      obtain ⟨pw, hpw2⟩ : ∃ pw, 128 ^ k = pw := ⟨_, rfl⟩
      have HPw : Hid (128 ^ k = pw) := hpw2
      rw [hpw2] at hn hpw
      have HSh : Hid ((2 : Nat) ^ (7 * k) = pw) := by show _ = _; rw [pow7]; exact hpw2
      clear hpw2
      have hdk : decide ((k : Int) < 9) = true := by simp; omega
      obtain ⟨f, hf⟩ : ∃ f, 9 - k = f + 1 := ⟨8 - k, by omega⟩
      obtain ⟨nx, hnx⟩ : ∃ nx, nextR s.data.toList sk = nx := ⟨_, rfl⟩
      have HC : Hid (Calls Tryd.prog 63 #[.pointer (some ⟨b, 0, none⟩)] wr fun e w' => e = .returned (.int .u8 (nx.1.toNat : Int)) ∧ Rd w' b s nx.2 ∧ wr.grownBy w' (some b)) := by rw [← hnx]; exact next_calls b s sk wr HRd.out.1
      have HNx : Hid (nextR s.data.toList sk = nx) := hnx
      have HF : Hid (9 - k = f + 1) := hf
      clear hnx hf
      obtain ⟨d, sn⟩ := nx
      simp only at HC
      have hu := UInt8.toNat_lt d
      obtain ⟨dn, hdn⟩ : ∃ dn, d.toNat = dn := ⟨_, rfl⟩
      have HD : Hid (d.toNat = dn) := hdn
      rw [hdn] at HC hu
      clear hdn
      go_wp2_with fail
      refine HC.out.mono ?_
      rintro e w1 ⟨rfl, hr1, hg1⟩
      have HR1 : Hid (Rd w1 b s sn ∧ w.grownBy w1 (some b)) := ⟨hr1, grown_trans HRd.out.2 hg1⟩
      clear hr1 hg1 HC
      have HV : Hid (IntKind.u64.wrap ((n : Int) + IntKind.u64.wrap ((dn : Int) % 128 * 2 ^ (7 * k))) = ((n + dn % 128 * pw : Nat) : Int)) := shl_val HSh.out hn hpw.1
      have hnl : n + dn % 128 * pw < 128 * pw := nxt_lt hn
      obtain ⟨n2, hn2⟩ : ∃ n2, n + dn % 128 * pw = n2 := ⟨_, rfl⟩
      rw [hn2] at HV hnl
      have HN2 : Hid (n + dn % 128 * pw = n2) := hn2
      clear hn2
      have d2 := HR1.out.1.c2
      have fz := HR1.out.1.fz 2
      by_cases h128 : 128 ≤ dn
      · have hd1 : decide ((128 : Int) ≤ (dn : Int)) = true := by simp; omega
        have HG2 : Hid (numGo s.data.toList (9 - (k + 1)) (k + 1) n2 sn = goal) := by
          have := HG.out
          rw [HF.out, numGo_go (by rw [HNx.out]; show 128 ≤ d.toNat; rw [HD.out]; exact h128), HNx.out] at this
          show numGo _ _ _ _ _ = goal
          rw [← this, show 9 - (k + 1) = f by have := HF.out; omega, ← HN2.out, ← HD.out, ← HPw.out]
        have hpl : n2 < 128 ^ (k + 1) := by rw [Nat.pow_succ, HPw.out]; omega
        clear h128
        go_wp2
        go_roundw
        case rel => exact ⟨k + 1, n2, sn, by omega, by go_num, by rw [HV.out], hpl, HR1.out.1, HR1.out.2, HG2.out⟩
        case measure => simp [intOf]; omega
      · have hd1 : decide ((128 : Int) ≤ (dn : Int)) = false := by simp; omega
        have HG2 : Hid (goal = (hlv n2, (sn.1, sn.2 || (decide (dn = 0) && decide (0 < k))))) := by
          have := HG.out
          rw [HF.out, numGo_end (by rw [HNx.out]; show ¬ 128 ≤ d.toNat; rw [HD.out]; exact h128), HNx.out] at this
          show goal = _
          rw [← this, ← HN2.out, ← HD.out, ← HPw.out]
        have hn63 : n2 < 9223372036854775808 := by omega
        clear h128 HG
        by_cases hd0 : dn = 0
        · have HD0 : Hid (decide (dn = 0) = true) := by show _ = _; simpa using hd0
          have hb0 : ((dn : Int) == 0) = true := by simp; omega
          clear hd0
          by_cases hk0 : 0 < k
          · have HK0 : Hid (decide (0 < k) = true) := by show _ = _; simpa using hk0
            have HB : Hid (Rd (w1.setCell ⟨b, 2, none⟩ (.bool true)) b s (sn.1, true) ∧ w.grownBy (w1.setCell ⟨b, 2, none⟩ (.bool true)) (some b)) := ⟨HR1.out.1.bad, grown_trans HR1.out.2 (grown_set _ _ _ _)⟩
            go_wp2_with fail
            rw [HV.out]
            refine (halved_calls n2 _ hn63).mono ?_
            rintro e w2 ⟨rfl, rfl⟩
            go_wp2
            go_ret
            rw [HG2.out, HD0.out, HK0.out]
            exact ⟨rfl, by rw [Bool.and_true, Bool.or_true]; exact HB.out.1, HB.out.2⟩
          · have HK0 : Hid (decide (0 < k) = false) := by show _ = _; simpa using hk0
            go_wp2_with fail
            rw [HV.out]
            refine (halved_calls n2 _ hn63).mono ?_
            rintro e w2 ⟨rfl, rfl⟩
            go_wp2
            go_ret
            rw [HG2.out, HK0.out]
            exact ⟨rfl, by rw [Bool.and_false, Bool.or_false]; exact HR1.out.1, HR1.out.2⟩
        · have HD0 : Hid (decide (dn = 0) = false) := by show _ = _; simpa using hd0
          have hb0 : ((dn : Int) == 0) = false := by simp; omega
          clear hd0
          go_wp2_with fail
          rw [HV.out]
          refine (halved_calls n2 _ hn63).mono ?_
          rintro e w2 ⟨rfl, rfl⟩
          go_wp2
          go_ret
          rw [HG2.out, HD0.out]
          exact ⟨rfl, by rw [Bool.false_and, Bool.or_false]; exact HR1.out.1, HR1.out.2⟩
    · have hk9 : k = 9 := by omega
      subst hk9
      have HG2 : Hid (goal = (0, (sk.1, true))) := by rw [← HG.out]; rfl
      have d2 := HRd.out.1.c2
      have fz := HRd.out.1.fz 2
      have HB : Hid (Rd (wr.setCell ⟨b, 2, none⟩ (.bool true)) b s (sk.1, true) ∧ w.grownBy (wr.setCell ⟨b, 2, none⟩ (.bool true)) (some b)) := ⟨HRd.out.1.bad, grown_trans HRd.out.2 (grown_set _ _ _ _)⟩
      clear HG hn
      go_wp2
      go_ret
      rw [HG2.out]
      exact ⟨rfl, HB.out.1, HB.out.2⟩
end Go.Proofs.YtignpgoicoojiaaDoor
