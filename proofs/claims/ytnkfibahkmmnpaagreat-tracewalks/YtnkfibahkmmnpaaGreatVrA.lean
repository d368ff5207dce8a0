/-
  The walks of within, allWithin, wide, writes, rightArrow.
-/
import Derived.Test.YtnkfibahkmmnpaaGreatKad
import Derived.Test.YtnkfibahkmmnpaaGreatKl
namespace Go.Proofs.YtnkfibahkmmnpaaGreat
open Go.RowKit

theorem withinV_calls (n lo hi : Int) (w : World) : Calls Tryz.prog 99 #[.int .i64 n, .int .i64 lo, .int .i64 hi] w fun e w' => e = .returned (.bool (inB lo hi n)) ∧ w = w' := by
  by_cases h1 : lo ≤ n
  · have h1b : decide (lo ≤ n) = true := by simpa using h1
    have HE : Hid (inB lo hi n = decide (n ≤ hi)) := by show _ = _; rw [Bool.eq_iff_iff, inB_iff]; simp; omega
    go_enter Tryz.func99, Tryz.ntmps99
    go_wp2
    go_ret
    exact ⟨ret_bool (by rw [HE.out]), rfl⟩
  · have h1b : decide (lo ≤ n) = false := by simpa using h1
    have HE : Hid (inB lo hi n = false) := by
      show _ = _
      cases e : inB lo hi n with
      | false => rfl
      | true => exact absurd (inB_iff.1 e).1 h1
    go_enter Tryz.func99, Tryz.ntmps99
    go_wp2
    go_ret
    exact ⟨ret_bool (by rw [HE.out]), rfl⟩

set_option maxHeartbeats 1000000 in
theorem allWithin_calls (mo : Int) (ao : Option Addr) (len cap : Nat) (zs : List Int) (w : World) (hz : IntsAt w ao len zs) (h0 : 0 ≤ mo) (h1 : mo ≤ 4611686018427387904) :
    Calls Tryz.prog 82 #[.int .i64 mo, .slice ao len cap] w fun e w' => e = .returned (.bool (allB (-mo) mo zs)) ∧ w = w' := by
  have hm := hz.short
  unfold maxLen at hm
  have HZ : Hid (IntsAt w ao len zs) := hz
  clear hz
  go_enter Tryz.func82, Tryz.ntmps82
  go_wp2
  go_loop [6, 9] (fun _ i => ∃ k : Nat, k ≤ len ∧ i = .int .i64 k ∧ (∀ j, j < k → -mo ≤ zs.getD j 0 ∧ zs.getD j 0 ≤ mo)) (fun _ i => len - (intOf i).toNat)
  case atStart => exact ⟨0, Nat.zero_le _, rfl, fun j hj => by omega⟩
  case round =>
    obtain ⟨k, hk, rfl, hall⟩ := hrel
    have HA : Hid (∀ j, j < k → -mo ≤ zs.getD j 0 ∧ zs.getD j 0 ≤ mo) := hall
    clear hall
    by_cases hlt : k < len
    · obtain ⟨b, off, rfl, hcs⟩ := HZ.out.cells (by omega)
      have hc1 := hcs k hlt
      clear hcs
      generalize hz : zs.getD k 0 = z at hc1
      have HK : Hid (zs.getD k 0 = z) := hz
      clear hz
      obtain ⟨q, hq⟩ : ∃ q, inB (-mo) mo z = q := ⟨_, rfl⟩
      have HQ : Hid (inB (-mo) mo z = q) := hq
      clear hq
      go_wp2_with (go_at_call 99; refine (withinV_calls _ _ _ _).mono ?_; rintro e w1 ⟨rfl, rfl⟩; rw [HQ.out]; cases q)
      · have HE : Hid (allB (-mo) mo zs = false) := all_bad k (by rw [HZ.out.length]; exact hlt) (by
          rw [HK.out]
          have h : ¬ (inB (-mo) mo z = true) := by rw [HQ.out]; decide
          rw [inB_iff] at h; omega)
        go_ret
        rw [HE.out]
        exact ⟨rfl, rfl⟩
      · go_round
        case rel =>
          refine ⟨k + 1, by omega, by go_num, ?_⟩
          intro j hj
          by_cases e : j = k
          · subst e; rw [HK.out]; exact inB_iff.1 HQ.out
          · exact HA.out j (by omega)
        case measure => simp [intOf]; omega
    · have HE : Hid (allB (-mo) mo zs = true) := all_good (fun j hj => HA.out j (by rw [HZ.out.length] at hj; omega))
      go_wp2
      go_ret
      rw [HE.out]
      exact ⟨rfl, rfl⟩

theorem quo_bd (c : Cd) (h0 : 0 ≤ c.most) : 0 ≤ (4611686018427387904 : Int) / (2 * c.most + 2) ∧ (4611686018427387904 : Int) / (2 * c.most + 2) ≤ 4611686018427387904 :=
  ⟨Int.ediv_nonneg (by decide) (by omega), Int.ediv_le_self _ (by decide)⟩
theorem quo_bd2 {q t : Int} (h0 : 0 ≤ q) (h1 : q ≤ 4611686018427387904) (ht : 1 ≤ t) : 0 ≤ q / t ∧ q / t ≤ 4611686018427387904 :=
  ⟨Int.ediv_nonneg h0 (by omega), Int.le_trans (Int.ediv_le_self _ h0) h1⟩
set_option maxHeartbeats 1000000 in
theorem wideV_calls (c : Cd) (s : Ls) (t : Int) (w : World) (h : CdAt w c s) (hm0 : 0 ≤ c.most) (hm1 : c.most ≤ 65536) (ht : 0 ≤ t) (ht1 : t ≤ 1000) :
    Calls Tryz.prog 53 #[.agg (cdCells c s), .int .i64 t] w fun e w' => e = .returned (.bool (widB c t)) ∧ Below w.heap.size w w' := by
  have hb := quo_bd c hm0
  obtain ⟨Q, hQ⟩ : ∃ Q, (4611686018427387904 : Int) / (2 * c.most + 2) = Q := ⟨_, rfl⟩
  rw [hQ] at hb
  obtain ⟨hb0, hb1⟩ := hb
  obtain ⟨mo, hmo⟩ : ∃ mo, mostB c t = mo := ⟨_, rfl⟩
  obtain ⟨r1, h1⟩ : ∃ r, allB (-mo) mo c.table = r := ⟨_, rfl⟩
  obtain ⟨r2, h2⟩ : ∃ r, allB (-mo) mo c.consts = r := ⟨_, rfl⟩
  have HE : Hid (widB c t = (!r1 || !r2)) := by show _ = _; rw [widB, hmo, h1, h2]
  have H1 : Hid (allB (-mo) mo c.table = r1) := h1
  have H2 : Hid (allB (-mo) mo c.consts = r2) := h2
  have HC : Hid (CdAt w c s) := h
  have hmo' : Q / max t 1 = mo := by rw [← hmo, ← hQ]; rfl
  clear h1 h2 h hmo
  rw [show cdCells c s = #[.int .i64 c.letters, .int .i64 c.planes, .int .i64 c.regs, .int .i64 c.lo, .int .i64 c.hi, .int .i64 c.most, .slice s.t.a s.t.n s.t.c, .slice s.k.a s.k.n s.k.c, .slice s.i.a s.i.n s.i.c, .slice s.r.a s.r.n s.r.c] from rfl]
  by_cases hq : t < 1
  · rw [show max t 1 = 1 by omega, Int.ediv_one] at hmo'
    subst hmo'
    go_enter Tryz.func53, Tryz.ntmps53
    go_wp2_with fail
    refine (allWithin_calls Q _ _ _ c.table _ (HC.out.table.below (below_new _)) hb0 hb1).mono ?_
    rintro e w' ⟨rfl, rfl⟩
    rw [H1.out]
    cases r1
    · go_wp2
      go_ret
      exact ⟨ret_bool (by rw [HE.out]; rfl), below_new _⟩
    go_wp2_with fail
    refine (allWithin_calls Q _ _ _ c.consts _ (HC.out.consts.below (below_new _)) hb0 hb1).mono ?_
    rintro e w' ⟨rfl, rfl⟩
    rw [H2.out]
    go_wp2
    go_ret
    exact ⟨ret_bool (by rw [HE.out]; rfl), below_new _⟩
  · rw [show max t 1 = t by omega] at hmo'
    have hb2 := quo_bd2 hb0 hb1 (show 1 ≤ t by omega)
    rw [hmo'] at hb2
    obtain ⟨hb2, hb3⟩ := hb2
    have hq2 : ¬ t = 0 := by omega
    have hq3 : 1 ≤ t := by omega
    go_enter Tryz.func53, Tryz.ntmps53
    go_wp2_with fail
    refine (allWithin_calls mo _ _ _ c.table _ (HC.out.table.below (below_new _)) hb2 hb3).mono ?_
    rintro e w' ⟨rfl, rfl⟩
    rw [H1.out]
    cases r1
    · go_wp2
      go_ret
      exact ⟨ret_bool (by rw [HE.out]; rfl), below_new _⟩
    go_wp2_with fail
    refine (allWithin_calls mo _ _ _ c.consts _ (HC.out.consts.below (below_new _)) hb2 hb3).mono ?_
    rintro e w' ⟨rfl, rfl⟩
    rw [H2.out]
    go_wp2
    go_ret
    exact ⟨ret_bool (by rw [HE.out]; rfl), below_new _⟩

def wrB (op : Int) : Bool := op == 1 || op == 2 || op == 3
set_option maxHeartbeats 1000000 in
theorem rightArrow_calls (x y z u pl : Int) (w : World) (hp0 : 1 ≤ pl) (hp1 : pl ≤ 10) :
    Calls Tryz.prog 76 #[.agg #[.int .i64 x, .int .i64 y, .int .i64 z, .int .i64 u], .int .i64 pl] w fun e w' => e = .returned (.bool (arwB pl (x, y, z, u))) ∧ Below w.heap.size w w' := by
  obtain ⟨r1, h1⟩ : ∃ r, inB 1 (pl - 1) x = r := ⟨_, rfl⟩
  obtain ⟨r2, h2⟩ : ∃ r, inB 0 15 y = r := ⟨_, rfl⟩
  obtain ⟨r3, h3⟩ : ∃ r, inB 0 (pl - 1) z = r := ⟨_, rfl⟩
  obtain ⟨r4, h4⟩ : ∃ r, inB 1 3 u = r := ⟨_, rfl⟩
  have HE : Hid (arwB pl (x, y, z, u) = (r1 && r2 && r3 && r4)) := by show _ = _; rw [← h1, ← h2, ← h3, ← h4]; rfl
  have H1 : Hid (inB 1 (pl - 1) x = r1) := h1
  have H2 : Hid (inB 0 15 y = r2) := h2
  have H3 : Hid (inB 0 (pl - 1) z = r3) := h3
  have H4 : Hid (inB 1 3 u = r4) := h4
  clear h1 h2 h3 h4
  go_enter Tryz.func76, Tryz.ntmps76
  go_wp2_with fail
  refine (withinV_calls _ _ _ _).mono ?_
  rintro e w' ⟨rfl, rfl⟩
  rw [H1.out]
  cases r1
  · go_wp2
    go_ret
    exact ⟨ret_bool (by rw [HE.out]; rfl), below_new _⟩
  go_wp2_with fail
  refine (withinV_calls _ _ _ _).mono ?_
  rintro e w' ⟨rfl, rfl⟩
  rw [H2.out]
  cases r2
  · go_wp2
    go_ret
    exact ⟨ret_bool (by rw [HE.out]; rfl), below_new _⟩
  go_wp2_with fail
  refine (withinV_calls _ _ _ _).mono ?_
  rintro e w' ⟨rfl, rfl⟩
  rw [H3.out]
  cases r3
  · go_wp2
    go_ret
    exact ⟨ret_bool (by rw [HE.out]; rfl), below_new _⟩
  go_wp2_with fail
  refine (withinV_calls _ _ _ _).mono ?_
  rintro e w' ⟨rfl, rfl⟩
  rw [H4.out]
  go_wp2
  go_ret
  exact ⟨ret_bool (by rw [HE.out]; rfl), below_new _⟩
end Go.Proofs.YtnkfibahkmmnpaaGreat
