/-
  The document's reader: plain, and the walk of its number.
-/
import Derived.Test.YtignpgoicoojiaaDoorCpl
import Derived.Test.YtignpgoicoojiaaDoorRdC
namespace Go.Proofs.YtignpgoicoojiaaDoor
open Go.RowKit

/-- What the document's reader makes of the bytes from a place on: so many digits at most. -/
def rnGo (t : List UInt8) : Nat → Nat → Nat → Nat → Nat × Nat
  | 0, _, n, i => (n, i)
  | f + 1, k, n, i => if (t.getD i 0).toNat < 128 then (n + 128 ^ k * ((t.getD i 0).toNat % 128), i + 1) else rnGo t f (k + 1) (n + 128 ^ k * ((t.getD i 0).toNat % 128)) (i + 1)
def rnum (t : List UInt8) (i : Nat) : Int × Nat := (hlv (rnGo t 9 0 0 i).1, (rnGo t 9 0 0 i).2)
def rnums (t : List UInt8) : Nat → Nat → List Int × Nat
  | 0, i => ([], i)
  | n + 1, i => ((rnum t i).1 :: (rnums t n (rnum t i).2).1, (rnums t n (rnum t i).2).2)
theorem getD_drop {t r : List UInt8} {x : UInt8} {i : Nat} (h : t.drop i = x :: r) : t.getD i 0 = x := by
  have hx : t[i]? = some x := by
    have := congrArg (·[0]?) h
    simpa using this
  rw [List.getD, hx]; rfl
theorem rnGo_ok {t : List UInt8} : ∀ (f m k n i : Nat) (r : List UInt8), m < 128 ^ (f + 1) → t.drop i = digs m ++ r → rnGo t (f + 1) k n i = (n + m * 128 ^ k, i + (digs m).length)
  | f, m, k, n, i, r, hm, h => by
    by_cases hs : m < 128
    · rw [digs_small hs] at h ⊢
      have hg := getD_drop h
      have ht := toNat_of (m := m) (by omega)
      rw [rnGo, hg, ht, if_pos hs, Nat.mod_eq_of_lt hs, Nat.mul_comm]; rfl
    · rw [digs_big hs] at h ⊢
      have hg := getD_drop h
      have ht := toNat_of (m := m % 128 + 128) (by omega)
      match f, hm with
      | 0, hm => exact absurd hm (by omega)
      | f + 1, hm =>
        rw [rnGo, hg, ht, if_neg (by omega), rnGo_ok f (m / 128) (k + 1) _ (i + 1) r (by rw [Nat.pow_succ] at hm; omega) (drop_one h), show (m % 128 + 128) % 128 = m % 128 by omega, Nat.pow_succ, Nat.mul_comm (128 ^ k) (m % 128), Nat.add_assoc, pow_split]
        simp only [List.length_cons]
        rw [show i + 1 + (digs (m / 128)).length = i + ((digs (m / 128)).length + 1) by omega]
theorem rnum_ok {t r : List UInt8} {z : Int} {i : Nat} (hz : okN z) (h : t.drop i = numB z ++ r) : rnum t i = (z, i + (numB z).length) := by
  have hm := dbl_le hz
  rw [rnum, rnGo_ok 8 (dbl z) 0 0 i r (by omega) h]
  simp only [Nat.pow_zero, Nat.mul_one, Nat.zero_add]
  rw [hlv_dbl]; rfl
theorem rnums_ok {t : List UInt8} : ∀ {l : List Int} {r : List UInt8} {i : Nat}, (∀ z ∈ l, okN z) → t.drop i = numsB l ++ r → rnums t l.length i = (l, i + (numsB l).length)
  | [], r, i, _, _ => rfl
  | z :: l, r, i, hz, h => by
    rw [numsB_cons, List.append_assoc] at h
    rw [List.length_cons, rnums, rnum_ok (hz z (by simp)) h]
    simp only
    rw [rnums_ok (fun y hy => hz y (by simp [hy])) (drop_add h), numsB_cons, List.length_append]
    simp only [Nat.add_assoc]
theorem rnums_len (t : List UInt8) : ∀ (n i : Nat), (rnums t n i).1.length = n
  | 0, _ => rfl
  | n + 1, i => by rw [rnums]; simp [rnums_len t n]
theorem rnums_succ (t : List UInt8) : ∀ (n i : Nat), rnums t (n + 1) i = ((rnums t n i).1 ++ [(rnum t (rnums t n i).2).1], (rnum t (rnums t n i).2).2)
  | 0, i => rfl
  | n + 1, i => by
    rw [rnums, rnums_succ t n]
    rfl
theorem rnGo_le (t : List UInt8) : ∀ (f k n i : Nat), (rnGo t f k n i).2 ≤ i + f
  | 0, _, _, _ => Nat.le_refl _
  | f + 1, k, n, i => by
    rw [rnGo]
    split
    · simp only; omega
    · have := rnGo_le t f (k + 1) (n + 128 ^ k * ((t.getD i 0).toNat % 128)) (i + 1)
      omega
theorem rnum_le (t : List UInt8) (i : Nat) : (rnum t i).2 ≤ i + 9 := rnGo_le t 9 0 0 i
theorem rnums_le (t : List UInt8) : ∀ (n i : Nat), (rnums t n i).2 ≤ i + 9 * n
  | 0, _ => Nat.le_refl _
  | n + 1, i => by
    rw [rnums]
    have h1 := rnum_le t i
    have h2 := rnums_le t n (rnum t i).2
    simp only; omega

/-- The document's reader in its box. -/
structure Rf (w : World) (b : Nat) (s : ByteArray) (i : Nat) : Prop where
  box : w.heap[b]? = some (.cells #[.string s, .int .i64 (i : Int)] 59 (0, 0))
  le : i ≤ 1099511627776
  short : s.size ≤ maxLen
theorem Rf.c0 {w : World} {b : Nat} {s : ByteArray} {i : Nat} (h : Rf w b s i) : w.cell? ⟨b, 0, none⟩ = some (.string s) := cell_block h.box 0 _ rfl
theorem Rf.c1 {w : World} {b : Nat} {s : ByteArray} {i : Nat} (h : Rf w b s i) : w.cell? ⟨b, 1, none⟩ = some (.int .i64 (i : Int)) := cell_block h.box 1 _ rfl
theorem Rf.fz {w : World} {b : Nat} {s : ByteArray} {i : Nat} (h : Rf w b s i) (j : Nat) : w.frozen? ⟨b, j, none⟩ = false := frozen_of_row w b j _ _ h.box
theorem Rf.other {w w' : World} {b : Nat} {s : ByteArray} {i : Nat} (h : Rf w b s i) {r : Option Nat} (hg : w.grownBy w' r) (hr : some b ≠ r) : Rf w' b s i :=
  ⟨by rw [hg.block b (lt_block h.box) hr]; exact h.box, h.le, h.short⟩
theorem Rf.drewN {w : World} {b : Nat} {s : ByteArray} {i : Nat} (h : Rf w b s i) (n : Nat) : Rf (w.drewN n) b s i := ⟨by simpa using h.box, h.le, h.short⟩
theorem Rf.put {w : World} {b : Nat} {s : ByteArray} {i : Nat} (h : Rf w b s i) {k : Nat} {z : Int} (hz : z = (k : Int)) (hk : k ≤ 1099511627776) : Rf (w.setCell ⟨b, 1, none⟩ (.int .i64 z)) b s k :=
  ⟨by rw [heap_setCell_same w b 1 _ _ _ h.box, hz]; rfl, hk, h.short⟩
theorem mul_bd {n P x : Nat} (hn : n < P) (hP : P ≤ 72057594037927936) : (P : Int) * ((x % 128 : Nat) : Int) = ((P * (x % 128) : Nat) : Int) ∧ P * (x % 128) ≤ 9151314442816847872 ∧ n + P * (x % 128) < 128 * P := by
  have h2 : P * (x % 128) ≤ P * 127 := Nat.mul_le_mul_left _ (by omega)
  refine ⟨by simp, by omega, by omega⟩

set_option maxRecDepth 10000 in
set_option maxHeartbeats 4000000 in
theorem refNum_calls (b : Nat) (s : ByteArray) (i0 : Nat) (w : World) (h : Rf w b s i0) (hi0 : i0 ≤ 1099511620000) :
    Calls Tryd.prog 37 #[.pointer (some ⟨b, 0, none⟩)] w fun e w' => e = .returned (.int .i64 (rnum s.data.toList i0).1) ∧ Rf w' b s (rnum s.data.toList i0).2 ∧ w.grownBy w' (some b) := by
  have HR : Hid (Rf w b s i0) := h
  have hs := h.short
  unfold maxLen at hs
  clear h
  obtain ⟨goal, hgoal⟩ : ∃ g, rnGo s.data.toList 9 0 0 i0 = g := ⟨_, rfl⟩
  have HQ : Hid (rnum s.data.toList i0 = (hlv goal.1, goal.2)) := by show _ = _; rw [rnum, hgoal]
  have H0 : Hid (rnGo s.data.toList (9 - 0) 0 0 i0 = goal) := hgoal
  rw [HQ.out]
  clear hgoal
  go_enter Tryd.func37, Tryd.ntmps37
  go_wp2
  go_loopw [3, 4, 5, 6] (fun x p k _ wq => ∃ (j n P i : Nat), j ≤ 9 ∧ k = .int .i64 j ∧ x = .int .i64 n ∧ p = .int .i64 P ∧ i ≤ i0 + j ∧ n < 9223372036854775808 ∧ (j < 9 → P = 128 ^ j ∧ n < P) ∧ Rf wq b s i ∧ w.grownBy wq (some b) ∧ Hid (rnGo s.data.toList (9 - j) j n i = goal)) (fun _ _ k _ _ => 9 - (intOf k).toNat)
  case atStart => exact ⟨0, 0, 1, i0, by omega, rfl, rfl, rfl, by omega, by omega, fun _ => ⟨rfl, by omega⟩, HR.out, grown_refl _ _, H0.out⟩
  case round =>
    obtain ⟨j, n, P, i, hj, rfl, rfl, rfl, hi, hn9, hP, hrf, hgr, HG⟩ := hrel
    have HRf : Hid (Rf wr b s i ∧ w.grownBy wr (some b)) := ⟨hrf, hgr⟩
    clear hrf hgr H0 HR
    by_cases hlt : j < 9
    · obtain ⟨hP1, hP2⟩ := hP hlt
      have hPb : P ≤ 72057594037927936 := by
        rw [hP1]
        exact Nat.le_trans (Nat.pow_le_pow_right (by omega) (show j ≤ 8 by omega)) (by decide)
      have hHP : Hid (P = 128 ^ j) := hP1
      clear hP hP1
      have c0 := HRf.out.1.c0
      have c1 := HRf.out.1.c1
      have HL : Hid (s.data.toList.length = s.size) := size_toList s
      have HG1 : Hid ((if (s.data.toList.getD i 0).toNat < 128 then (n + 128 ^ j * ((s.data.toList.getD i 0).toNat % 128), i + 1) else rnGo s.data.toList (9 - (j + 1)) (j + 1) (n + 128 ^ j * ((s.data.toList.getD i 0).toNat % 128)) (i + 1)) = goal) := by
        show _ = _
        rw [← HG.out, show 9 - j = (9 - (j + 1)) + 1 by omega]; rfl
      clear HG
      by_cases hin : i < s.size
      · have HX : Hid (s.data.toList.getD i 0 = s[i]) := by show _ = _; rw [List.getD, getElem?_at s i hin]; rfl
        go_wp2_with fail
        go_quiet (fail)
        have d0 := (HRf.out.1.drewN nq).c0
        have d1 := (HRf.out.1.drewN nq).c1
        have HRd : Hid (Rf (wr.drewN nq) b s i ∧ w.grownBy (wr.drewN nq) (some b)) := ⟨HRf.out.1.drewN _, grown_trans HRf.out.2 (grown_drewN _)⟩
        generalize wr.drewN nq = wd at *
        clear c0 c1 HRf
        go_wp2_with fail
        go_quiet (fail)
        have HRe : Hid (Rf (wd.drewN nq) b s i ∧ w.grownBy (wd.drewN nq) (some b)) := ⟨HRd.out.1.drewN _, grown_trans HRd.out.2 (grown_drewN _)⟩
        clear d0 d1 HRd
        generalize wd.drewN nq = we at *
        have e1 := HRe.out.1.c1
        have fz := HRe.out.1.fz 1
        have hi1 : i + 1 ≤ 1099511627776 := by omega
        have HRg : Hid (Rf (we.setCell ⟨b, 1, none⟩ (.int .i64 ((i : Int) + 1))) b s (i + 1) ∧ w.grownBy (we.setCell ⟨b, 1, none⟩ (.int .i64 ((i : Int) + 1))) (some b)) := ⟨HRe.out.1.put (by omega) hi1, grown_trans HRe.out.2 (grown_set _ _ _ _)⟩
        obtain ⟨x, hx⟩ : ∃ x : Nat, s[i].toNat = x := ⟨_, rfl⟩
        have hxb : x < 256 := by rw [← hx]; exact UInt8.toNat_lt _
        rw [hx, show wrap64 (x : Int) = (x : Int) by unfold wrap64; omega]
        rw [HX.out, hx] at HG1
        clear hx HX
        obtain ⟨y, hy⟩ : ∃ y : Nat, P * (x % 128) = y := ⟨_, rfl⟩
        have hy2 : y ≤ 9151314442816847872 ∧ n + y < 128 * P := by rw [← hy]; exact (mul_bd (x := x) hP2 hPb).2
        have hyP : (P : Int) * ((x : Int) % 128) = (y : Int) := by rw [← hy]; simp
        obtain ⟨n2, hn2⟩ : ∃ n2 : Nat, n + y = n2 := ⟨_, rfl⟩
        rw [← hHP.out, hy, hn2] at HG1
        have hnn : (n : Int) + (y : Int) = (n2 : Int) := by omega
        have hn2b : n2 < 9223372036854775808 := by omega
        have HN2 : Hid (n2 < 128 * P) := by show _ < _; omega
        clear hy hy2 hn2
        by_cases hx7 : x < 128
        · rw [if_pos hx7] at HG1
          go_wp2_with fail
          · rename_i hpar
            have HE : Hid (hlv n2 = (n2 : Int) / 2) := by
              have hp : (n2 : Int) % 2 = 0 := by simpa using hpar
              show _ = _; unfold hlv; rw [if_neg (by omega)]; omega
            go_ret
            rw [← HG1.out]
            exact ⟨ret_int HE.out.symm, HRg.out.1, HRg.out.2⟩
          · rename_i hpar
            have HE : Hid (hlv n2 = -((n2 : Int) / 2) - 1) := by
              have hp : ¬ ((n2 : Int) % 2 = 0) := by simpa using hpar
              show _ = _; unfold hlv; rw [if_pos (by omega)]; omega
            go_ret
            rw [← HG1.out]
            exact ⟨ret_int HE.out.symm, HRg.out.1, HRg.out.2⟩
        · rw [if_neg hx7] at HG1
          go_wp2_with fail
          · rename_i hj8
            have hP7 : P ≤ 562949953421312 := by
              rw [hHP.out]
              exact Nat.le_trans (Nat.pow_le_pow_right (by omega) (show j ≤ 7 by omega)) (by decide)
            refine ⟨⟨j + 1, n2, P * 128, i + 1, by omega, rfl, rfl, by rw [show wrap64 ((P : Int) * 128) = ((P * 128 : Nat) : Int) by unfold wrap64; omega], by omega, hn2b, fun _ => ⟨?_, ?_⟩, HRg.out.1, HRg.out.2, HG1.out⟩, ?_⟩
            · rw [hHP.out, Nat.pow_succ]
            · have := HN2.out; omega
            · simp only [intOf]; omega
          · rename_i hj8
            refine ⟨⟨j + 1, n2, P, i + 1, by omega, rfl, rfl, rfl, by omega, hn2b, fun h9 => absurd h9 (by omega), HRg.out.1, HRg.out.2, HG1.out⟩, ?_⟩
            simp only [intOf]; omega
      · have HX : Hid ((s.data.toList.getD i 0).toNat = 0) := by
          show _ = _
          rw [List.getD, List.getElem?_eq_none (by rw [HL.out]; omega)]; rfl
        rw [HX.out] at HG1
        simp only [show (0 : Nat) < 128 by decide, if_true, Nat.zero_mod, Nat.mul_zero, Nat.add_zero] at HG1
        go_wp2_with fail
        go_quiet (fail)
        have HRe : Hid (Rf (wr.drewN nq) b s i ∧ w.grownBy (wr.drewN nq) (some b)) := ⟨HRf.out.1.drewN _, grown_trans HRf.out.2 (grown_drewN _)⟩
        generalize wr.drewN nq = we at *
        clear c0 c1 HRf
        have e1 := HRe.out.1.c1
        have fz := HRe.out.1.fz 1
        have hi1 : i + 1 ≤ 1099511627776 := by omega
        have HRg : Hid (Rf (we.setCell ⟨b, 1, none⟩ (.int .i64 ((i : Int) + 1))) b s (i + 1) ∧ w.grownBy (we.setCell ⟨b, 1, none⟩ (.int .i64 ((i : Int) + 1))) (some b)) := ⟨HRe.out.1.put (by omega) hi1, grown_trans HRe.out.2 (grown_set _ _ _ _)⟩
        have hz0 : (P : Int) * 0 = 0 := by simp
        go_wp2_with fail
        · rename_i hpar
          have HE : Hid (hlv n = (n : Int) / 2) := by
            have hp : (n : Int) % 2 = 0 := by simpa using hpar
            show _ = _; unfold hlv; rw [if_neg (by omega)]; omega
          go_ret
          rw [← HG1.out]
          exact ⟨ret_int HE.out.symm, HRg.out.1, HRg.out.2⟩
        · rename_i hpar
          have HE : Hid (hlv n = -((n : Int) / 2) - 1) := by
            have hp : ¬ ((n : Int) % 2 = 0) := by simpa using hpar
            show _ = _; unfold hlv; rw [if_pos (by omega)]; omega
          go_ret
          rw [← HG1.out]
          exact ⟨ret_int HE.out.symm, HRg.out.1, HRg.out.2⟩
    · have hj9 : j = 9 := by omega
      subst hj9
      have HF : Hid (goal = (n, i)) := by rw [← HG.out]; rfl
      clear HG hP
      by_cases hpar : n % 2 = 1
      · have hd : (((n : Int) % 2) == 0) = false := by simp; omega
        have HE : Hid (hlv n = -((n : Int) / 2) - 1) := by show _ = _; unfold hlv; rw [if_pos hpar]; omega
        go_wp2
        go_ret
        rw [HF.out]
        exact ⟨ret_int HE.out.symm, HRf.out.1, HRf.out.2⟩
      · have hd : (((n : Int) % 2) == 0) = true := by simp; omega
        have HE : Hid (hlv n = (n : Int) / 2) := by show _ = _; unfold hlv; rw [if_neg hpar]; omega
        go_wp2
        go_ret
        rw [HF.out]
        exact ⟨ret_int HE.out.symm, HRf.out.1, HRf.out.2⟩
end Go.Proofs.YtignpgoicoojiaaDoor
