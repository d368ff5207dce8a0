/-
  The walk of the statements' own goes: back by a column. The walk of goes: a row less. The walk of goes: a column less.
-/
import Derived.Test.YtnkfibahkmmnpaaKs
namespace Go.Proofs.Ytnkfibahkmmnpaa
open Go.RowKit

def stC (r : Nat → Bool) (i j : Int) : Array Value := #[.bool (r 0), .bool (r 1), .bool (r 2), .bool (r 3), .bool (r 4), .bool (r 5), .bool (r 6), .bool (r 7), .bool (r 8), .bool (r 9), .int .i64 i, .int .i64 j]
theorem stC_put (r : Nat → Bool) (i j : Int) {p : Nat} (hp : p < 10) : (stC r i j).setIfInBounds p (.bool true) = stC (putP r p) i j := by
  have : p = 0 ∨ p = 1 ∨ p = 2 ∨ p = 3 ∨ p = 4 ∨ p = 5 ∨ p = 6 ∨ p = 7 ∨ p = 8 ∨ p = 9 := by omega
  rcases this with rfl | rfl | rfl | rfl | rfl | rfl | rfl | rfl | rfl | rfl <;> rfl
theorem stC_get (r : Nat → Bool) (i j : Int) {p : Nat} (hp : p < 10) : (stC r i j)[p]? = some (.bool (r p)) := by
  have : p = 0 ∨ p = 1 ∨ p = 2 ∨ p = 3 ∨ p = 4 ∨ p = 5 ∨ p = 6 ∨ p = 7 ∨ p = 8 ∨ p = 9 := by omega
  rcases this with rfl | rfl | rfl | rfl | rfl | rfl | rfl | rfl | rfl | rfl <;> rfl
/-- The boxes, and the list. -/
structure Gt (w W : World) (s : Nat → Bool) (i j : Int) (r : Nat → Bool) (i2 j2 : Int) (aa : Option Addr) (an ac : Nat) (l : List Qd) : Prop where
  bx : W.heap[w.heap.size]? = some (.cells (stC s i j) 48 (0, 0))
  res : W.heap[w.heap.size + 1]? = some (.cells (stC (fun _ => false) 0 0) 48 (0, 0))
  tb : W.heap[w.heap.size + 2]? = some (.cells (stC r i2 j2) 48 (0, 0))
  low : Below w.heap.size w W
  ar : W.ownsRow w.heap.size 86 4 (.slice aa an ac) an (qdVals l)
section
variable {w W V : World} {s r : Nat → Bool} {i j i2 j2 : Int} {aa : Option Addr} {an ac : Nat} {l : List Qd}
theorem Gt.next (h : Gt w W s i j r i2 j2 aa an ac l) (hb : Below W.heap.size W V) : Gt w V s i j r i2 j2 aa an ac l :=
  ⟨by rw [hb.block _ (lt_block h.bx)]; exact h.bx, by rw [hb.block _ (lt_block h.res)]; exact h.res, by rw [hb.block _ (lt_block h.tb)]; exact h.tb, h.low.trans (hb.mono h.low.size), owned_below h.ar hb⟩
theorem Gt.put (h : Gt w W s i j r i2 j2 aa an ac l) {p : Nat} (hp : p < 10) : Gt w (W.setCell ⟨w.heap.size + 2, p, none⟩ (.bool true)) s i j (putP r p) i2 j2 aa an ac l :=
  ⟨by rw [Below.heap_setCell _ _ _ _ (by show w.heap.size ≠ w.heap.size + 2; omega)]; exact h.bx, by rw [Below.heap_setCell _ _ _ _ (by show w.heap.size + 1 ≠ w.heap.size + 2; omega)]; exact h.res, by rw [heap_setCell_same _ _ _ _ _ _ h.tb, stC_put _ _ _ hp], h.low.setCell (p := ⟨w.heap.size + 2, p, none⟩) (by show w.heap.size ≤ w.heap.size + 2; omega) _, owned_setOther h.ar h.tb (by decide) _⟩
theorem gt_start (w : World) (s : Nat → Bool) (i j i2 j2 : Int) : (((w.alloc (.cells (stC s i j) 48)).alloc (.cells (stC (fun _ => false) 0 0) 48)).alloc (.cells (stC (fun _ => false) i2 j2) 48)).heap[w.heap.size]? = some (.cells (stC s i j) 48 (0, 0)) ∧ (((w.alloc (.cells (stC s i j) 48)).alloc (.cells (stC (fun _ => false) 0 0) 48)).alloc (.cells (stC (fun _ => false) i2 j2) 48)).heap[w.heap.size + 1]? = some (.cells (stC (fun _ => false) 0 0) 48 (0, 0)) ∧ (((w.alloc (.cells (stC s i j) 48)).alloc (.cells (stC (fun _ => false) 0 0) 48)).alloc (.cells (stC (fun _ => false) i2 j2) 48)).heap[w.heap.size + 1 + 1]? = some (.cells (stC (fun _ => false) i2 j2) 48 (0, 0)) ∧ Below w.heap.size w (((w.alloc (.cells (stC s i j) 48)).alloc (.cells (stC (fun _ => false) 0 0) 48)).alloc (.cells (stC (fun _ => false) i2 j2) 48)) := three_at w _ _ _
theorem Gt.fin (h : Gt w W s i j r i2 j2 aa an ac l) : Below w.heap.size w ((((((((((((W.setCell ⟨w.heap.size + 1, 0, none⟩ (.bool (r 0))).setCell ⟨w.heap.size + 1, 1, none⟩ (.bool (r 1))).setCell ⟨w.heap.size + 1, 2, none⟩ (.bool (r 2))).setCell ⟨w.heap.size + 1, 3, none⟩ (.bool (r 3))).setCell ⟨w.heap.size + 1, 4, none⟩ (.bool (r 4))).setCell ⟨w.heap.size + 1, 5, none⟩ (.bool (r 5))).setCell ⟨w.heap.size + 1, 6, none⟩ (.bool (r 6))).setCell ⟨w.heap.size + 1, 7, none⟩ (.bool (r 7))).setCell ⟨w.heap.size + 1, 8, none⟩ (.bool (r 8))).setCell ⟨w.heap.size + 1, 9, none⟩ (.bool (r 9))).setCell ⟨w.heap.size + 1, 10, none⟩ (.int .i64 i2)).setCell ⟨w.heap.size + 1, 11, none⟩ (.int .i64 j2)) := by
  have hle : w.heap.size ≤ w.heap.size + 1 := Nat.le_succ _
  exact ((((((((((((h.low.setCell (p := ⟨w.heap.size + 1, 0, none⟩) hle _).setCell (p := ⟨w.heap.size + 1, 1, none⟩) hle _).setCell (p := ⟨w.heap.size + 1, 2, none⟩) hle _).setCell (p := ⟨w.heap.size + 1, 3, none⟩) hle _).setCell (p := ⟨w.heap.size + 1, 4, none⟩) hle _).setCell (p := ⟨w.heap.size + 1, 5, none⟩) hle _).setCell (p := ⟨w.heap.size + 1, 6, none⟩) hle _).setCell (p := ⟨w.heap.size + 1, 7, none⟩) hle _).setCell (p := ⟨w.heap.size + 1, 8, none⟩) hle _).setCell (p := ⟨w.heap.size + 1, 9, none⟩) hle _).setCell (p := ⟨w.heap.size + 1, 10, none⟩) hle _).setCell (p := ⟨w.heap.size + 1, 11, none⟩) hle _)
end
set_option maxRecDepth 10000 in
set_option maxHeartbeats 4000000 in
theorem goes_1 {w : World} {g gs P X Y : Nat} {ta : Sl} {F : Nat → Ct} {e : En} {sp : Int} (hT : Tb w g gs P X Y ta F e sp) (l : List Qd) (ha : QdsAt w ta.a ta.n l) (hl : ta.n ≤ 100000) (s : Nat → Bool) (i j : Int)
    (hi : -70000 ≤ i ∧ i ≤ 70000) (hj : -70000 ≤ j ∧ j ≤ 70000) (hm : ∀ p, okN (atB P X Y F p i j)) (hr : ∀ a ∈ l, (0 ≤ a.1 ∧ a.1 < 10) ∧ (0 ≤ a.2.1 ∧ a.2.1 ≤ 15) ∧ (0 ≤ a.2.2.1 ∧ a.2.2.1 < 10) ∧ (1 ≤ a.2.2.2 ∧ a.2.2.2 ≤ 3)) :
    Calls Try.prog 14 #[.pointer (some ⟨g, 0, none⟩), .agg (stC s i j), .int .u8 77] w fun r w' => r = .returned (.tuple #[.agg (stC (goL (msk P X Y F i j) s 1 l).1 (i - 1) (j - 1)), .bool (goL (msk P X Y F i j) s 1 l).2]) ∧ Below w.heap.size w w' := by
  have hres : Try.f14.results = #[.cell 6 48, .tmp 7] := by kernel_rfl
  have HA : Hid (∀ W, Below w.heap.size w W → Calls Try.prog 25 #[.pointer (some ⟨g, 0, none⟩)] W (ArPost l W)) := fun W hW => arrows_calls (hT.next hW) l (ha.below hW) hl
  have HM : Hid (∀ W, Below w.heap.size w W → ∀ p : Nat, Calls Try.prog 28 #[.pointer (some ⟨g, 0, none⟩), .int .i64 (p : Int), .int .i64 i, .int .i64 j] W fun r w' => r = .returned (.int .i64 (msk P X Y F i j p : Int)) ∧ Below W.heap.size W w') := fun W hW p => by
    have := mask_calls (hT.next hW) p i j (hm p)
    unfold msk
    rw [Int.toNat_of_nonneg (hm p).1]
    exact this
  have HK : Hid (∀ p : Int, msk P X Y F i j p < 65536) := fun p => by unfold msk; have := hm p; unfold okN at this; omega
  have HR : Hid (∀ a ∈ l, (0 ≤ a.1 ∧ a.1 < 10) ∧ (0 ≤ a.2.1 ∧ a.2.1 ≤ 15) ∧ (0 ≤ a.2.2.1 ∧ a.2.2.1 < 10) ∧ (1 ≤ a.2.2.2 ∧ a.2.2.2 ≤ 3)) := hr
  obtain ⟨m, hmm⟩ : ∃ m, msk P X Y F i j = m := ⟨_, rfl⟩
  rw [hmm] at HM HK ⊢
  have H0 := gt_start w s i j (i - 1) (j - 1)
  have H0h : Hid (_ ∧ _) := H0
  have HR0 : Hid (goL m s 1 [] = (fun _ => false, false)) := rfl
  obtain ⟨hi1, hi2⟩ := hi
  obtain ⟨hj1, hj2⟩ := hj
  have hln : l.length = ta.n := ha.length
  have hl4 : ta.n ≤ 100000 := hl
  obtain ⟨n, hn⟩ : ∃ n, l.length = n := ⟨_, rfl⟩
  rw [hn] at hln
  have HN : Hid (l.length = n) := hn
  have hn5 : n ≤ 100000 := by omega
  clear hT ha hl hm hr hmm H0 hln hl4 hn
  unfold stC at H0h ⊢
  go_enter Try.func14, Try.ntmps14
  go_wp2_with fail
  refine (HA.out _ H0h.out.2.2.2).mono ?_
  rintro e1 w1 ⟨aa, ac, rfl, ho, hb1⟩
  rw [HN.out] at ho ⊢
  have H1 : Hid (Gt w w1 s i j (fun _ => false) (i - 1) (j - 1) aa n ac l) := ⟨by rw [hb1.block _ (lt_block H0h.out.1)]; exact H0h.out.1, by rw [hb1.block _ (lt_block H0h.out.2.1)]; exact H0h.out.2.1, by rw [hb1.block _ (lt_block H0h.out.2.2.1)]; exact H0h.out.2.2.1, H0h.out.2.2.2.trans (hb1.mono H0h.out.2.2.2.size), owned_base ho H0h.out.2.2.2.size⟩
  clear ho hb1 H0h HA
  go_wp2
  go_loopg [10, 12, 13, 14] n (fun q av kv _ _ wr => ∃ k : Nat, k + q = n ∧ kv = .int .i64 k ∧ av = .bool (goL m s 1 (l.take k)).2 ∧ Hid (Gt w wr s i j (goL m s 1 (l.take k)).1 (i - 1) (j - 1) aa n ac l))
  case atStart =>
    refine ⟨0, by omega, rfl, ?_, ?_⟩
    · rw [List.take_zero, HR0.out]
    · rw [List.take_zero, HR0.out]; exact H1
  case round =>
    clear H1 HR0
    obtain ⟨k, hkq, rfl, rfl, HP⟩ := hrel
    by_cases hk : k < n
    rotate_left
    · have hd : decide ((k : Int) < (n : Int)) = false := decide_eq_false (by omega)
      have hkn : k = n := by omega
      subst hkn
      have hlt2 : l.take k = l := by rw [← HN.out]; exact List.take_length
      rw [hlt2] at HP ⊢
      clear hlt2
      obtain ⟨R, hR⟩ : ∃ R, goL m s 1 l = R := ⟨_, rfl⟩
      have HRR : Hid (goL m s 1 l = R) := hR
      rw [hR] at HP ⊢
      clear hR
      obtain ⟨S, ab⟩ := R
      simp only at HP ⊢
      have c0 := cell_block HP.out.tb 0 (.bool (S 0)) rfl
      have c1 := cell_block HP.out.tb 1 (.bool (S 1)) rfl
      have c2 := cell_block HP.out.tb 2 (.bool (S 2)) rfl
      have c3 := cell_block HP.out.tb 3 (.bool (S 3)) rfl
      have c4 := cell_block HP.out.tb 4 (.bool (S 4)) rfl
      have c5 := cell_block HP.out.tb 5 (.bool (S 5)) rfl
      have c6 := cell_block HP.out.tb 6 (.bool (S 6)) rfl
      have c7 := cell_block HP.out.tb 7 (.bool (S 7)) rfl
      have c8 := cell_block HP.out.tb 8 (.bool (S 8)) rfl
      have c9 := cell_block HP.out.tb 9 (.bool (S 9)) rfl
      have c10 := cell_block HP.out.tb 10 (.int .i64 (i - 1)) rfl
      have c11 := cell_block HP.out.tb 11 (.int .i64 (j - 1)) rfl
      have rf : ∀ k, wr.frozen? ⟨w.heap.size + 1, k, none⟩ = false := fun k => frozen_of_row _ _ k _ _ HP.out.res
      have d0 := cell_block HP.out.res 0 (.bool false) rfl
      have d1 := cell_block HP.out.res 1 (.bool false) rfl
      have d2 := cell_block HP.out.res 2 (.bool false) rfl
      have d3 := cell_block HP.out.res 3 (.bool false) rfl
      have d4 := cell_block HP.out.res 4 (.bool false) rfl
      have d5 := cell_block HP.out.res 5 (.bool false) rfl
      have d6 := cell_block HP.out.res 6 (.bool false) rfl
      have d7 := cell_block HP.out.res 7 (.bool false) rfl
      have d8 := cell_block HP.out.res 8 (.bool false) rfl
      have d9 := cell_block HP.out.res 9 (.bool false) rfl
      have d10 := cell_block HP.out.res 10 (.int .i64 0) rfl
      have d11 := cell_block HP.out.res 11 (.int .i64 0) rfl
      have HB : Hid (Below w.heap.size w ((((((((((((wr.setCell ⟨w.heap.size + 1, 0, none⟩ (.bool (S 0))).setCell ⟨w.heap.size + 1, 1, none⟩ (.bool (S 1))).setCell ⟨w.heap.size + 1, 2, none⟩ (.bool (S 2))).setCell ⟨w.heap.size + 1, 3, none⟩ (.bool (S 3))).setCell ⟨w.heap.size + 1, 4, none⟩ (.bool (S 4))).setCell ⟨w.heap.size + 1, 5, none⟩ (.bool (S 5))).setCell ⟨w.heap.size + 1, 6, none⟩ (.bool (S 6))).setCell ⟨w.heap.size + 1, 7, none⟩ (.bool (S 7))).setCell ⟨w.heap.size + 1, 8, none⟩ (.bool (S 8))).setCell ⟨w.heap.size + 1, 9, none⟩ (.bool (S 9))).setCell ⟨w.heap.size + 1, 10, none⟩ (.int .i64 (i - 1))).setCell ⟨w.heap.size + 1, 11, none⟩ (.int .i64 (j - 1)))) := HP.out.fin
      have HX : Hid (∀ W : World, Below w.heap.size w W → Ending.returned (.tuple #[.agg #[.bool (S 0), .bool (S 1), .bool (S 2), .bool (S 3), .bool (S 4), .bool (S 5), .bool (S 6), .bool (S 7), .bool (S 8), .bool (S 9), .int .i64 (i - 1), .int .i64 (j - 1)], .bool ab]) = .returned (.tuple #[.agg (stC (goL m s 1 l).1 (i - 1) (j - 1)), .bool (goL m s 1 l).2]) ∧ Below w.heap.size w W) := fun W hW => ⟨by rw [HRR.out]; rfl, hW⟩
      clear HP HM HK HR HN
      go_wp2
      refine bodyPost_ret (v := .tuple #[.agg #[.bool (S 0), .bool (S 1), .bool (S 2), .bool (S 3), .bool (S 4), .bool (S 5), .bool (S 6), .bool (S 7), .bool (S 8), .bool (S 9), .int .i64 (i - 1), .int .i64 (j - 1)], .bool ab]) ?_ rfl (HX.out _ HB.out)
      simp only [results, hres]
      go_simp
    · have hd : decide ((k : Int) < (n : Int)) = true := decide_eq_true (by omega)
      obtain ⟨lb, lo, hla, hlc⟩ := (qds_owned HP.out.ar).cells (by omega)
      have hkl : k < l.length := by rw [HN.out]; exact hk
      obtain ⟨⟨a0, a1, a2, a3⟩, hak⟩ : ∃ a : Qd, l[k]? = some a := ⟨l[k], List.getElem?_eq_getElem hkl⟩
      have hmem : (a0, a1, a2, a3) ∈ l := List.mem_of_getElem? hak
      obtain ⟨r0, r1, r2, r3⟩ := HR.out _ hmem
      simp only at r0 r1 r2 r3
      have htk : goL m s 1 (l.take (k + 1)) = goS m s 1 (goL m s 1 (l.take k)) (a0, a1, a2, a3) := by
        rw [← goL_snoc]
        congr 1
        rw [List.take_add_one, hak]; rfl
      obtain ⟨q0, q1, q2, q3⟩ := hlc k _ hak
      simp only at q0 q1 q2 q3
      obtain rfl := hla
      clear hlc hmem hak hkl
      obtain ⟨p, hp⟩ : ∃ p : Nat, a0 = p := ⟨a0.toNat, by omega⟩
      obtain ⟨bt, hbt⟩ : ∃ bt : Nat, a1 = bt := ⟨a1.toNat, by omega⟩
      obtain ⟨pf, hpf⟩ : ∃ pf : Nat, a2 = pf := ⟨a2.toNat, by omega⟩
      subst hp
      subst hbt
      subst hpf
      have HTk : Hid (goL m s 1 (l.take (k + 1)) = if a3 = 1 ∧ (s p && (m p).testBit bt) = true then (putP (goL m s 1 (l.take k)).1 pf, true) else goL m s 1 (l.take k)) := by
        show _ = _
        rw [htk]; unfold goS openB; simp only [Int.toNat_natCast]
      clear htk
      generalize goL m s 1 (l.take k) = R at *
      obtain ⟨S, ab⟩ := R
      simp only at HP HTk ⊢
      have hp10 : p < 10 := by omega
      have hpf10 : pf < 10 := by omega
      have hp10i : (p : Int) < 10 := by omega
      have hpf10i : (pf : Int) < 10 := by omega
      have hbt16 : (bt : Int) < 16 := by omega
      have d1 : decide ((9 : Int) < (p : Int)) = false := decide_eq_false (by omega)
      have d2 : decide ((9 : Int) < (pf : Int)) = false := decide_eq_false (by omega)
      have d3 : decide ((15 : Int) < (bt : Int)) = false := decide_eq_false (by omega)
      have hbw : w.heap.size + 2 < wr.heap.size := lt_block HP.out.tb
      have hgk : 0 < gk := by omega
      have HA2 : Hid (Gt w (wr.alloc (.cells #[.int .i64 (p : Int), .int .i64 (bt : Int), .int .i64 (pf : Int), .int .i64 a3] 86)).drew s i j S (i - 1) (j - 1) (some ⟨lb, lo, none⟩) n ac l ∧ (wr.alloc (.cells #[.int .i64 (p : Int), .int .i64 (bt : Int), .int .i64 (pf : Int), .int .i64 a3] 86)).drew.heap[wr.heap.size]? = some (.cells #[.int .i64 (p : Int), .int .i64 (bt : Int), .int .i64 (pf : Int), .int .i64 a3] 86 (0, 0))) := ⟨HP.out.next (below_new _).drew, heap_alloc_new _ _⟩
      clear HP
      go_upto_region 18 with (fail)
      clear q0 q1 q2 q3
      obtain ⟨ax, hax⟩ : ∃ ax, wr.heap.size = ax := ⟨_, rfl⟩
      obtain ⟨wd, hwd⟩ : ∃ wd, wd = wr.alloc (.cells #[.int .i64 (p : Int), .int .i64 (bt : Int), .int .i64 (pf : Int), .int .i64 a3] 86) := ⟨_, rfl⟩
      rw [← hwd, hax] at HA2 ⊢
      have hax2 : w.heap.size + 2 < ax := by omega
      clear hwd hax hbw
      have HS : Hid ((fun W : World => W.cell? ⟨ax, 0, none⟩ = some (.int .i64 (p : Int)) ∧ W.cell? ⟨w.heap.size, 10, none⟩ = some (.int .i64 i) ∧ W.cell? ⟨w.heap.size, 11, none⟩ = some (.int .i64 j)) wd.drew) := ⟨cell_block HA2.out.2 0 _ rfl, cell_block HA2.out.1.bx 10 _ rfl, cell_block HA2.out.1.bx 11 _ rfl⟩
      refine wp_region_Y (fun j => [].contains j) (fun W : World => W.cell? ⟨ax, 0, none⟩ = some (.int .i64 (p : Int)) ∧ W.cell? ⟨w.heap.size, 10, none⟩ = some (.int .i64 i) ∧ W.cell? ⟨w.heap.size, 11, none⟩ = some (.int .i64 j)) (by kernel_rfl) ?_
      refine wpAnyY_pure (i := 0) 75 (v := .pointer (some ⟨g, 0, none⟩)) rfl rfl (by kernel_rfl) (by kernel_rfl) (by kernel_rfl) (fun _ _ _ h => h) (Or.inl ⟨by rfl, by (intro W _; go_simp)⟩) ?_
      simp only [Act.put, List.setIfInBounds_toArray, List.set_cons_succ, List.set_cons_zero]
      refine wpAnyY_pure (i := 1) 76 (v := .pointer (some ⟨g, 0, none⟩)) rfl rfl (by kernel_rfl) (by kernel_rfl) (by kernel_rfl) (fun _ _ _ h => h) (Or.inl ⟨by rfl, by (intro W _; go_simp)⟩) ?_
      simp only [Act.put, List.setIfInBounds_toArray, List.set_cons_succ, List.set_cons_zero]
      refine wpAnyY_pure (i := 2) 77 (v := .pointer (some ⟨g, 0, none⟩)) rfl rfl (by kernel_rfl) (by kernel_rfl) (by kernel_rfl) (fun _ _ _ h => h) (Or.inl ⟨by rfl, by (intro W _; go_simp)⟩) ?_
      simp only [Act.put, List.setIfInBounds_toArray, List.set_cons_succ, List.set_cons_zero]
      refine wpAnyY_pure (i := 3) 78 (v := .pointer (some ⟨ax, 0, none⟩)) rfl rfl (by kernel_rfl) (by kernel_rfl) (by kernel_rfl) (fun _ _ _ h => h) (Or.inl ⟨by rfl, by (intro W _; go_simp)⟩) ?_
      simp only [Act.put, List.setIfInBounds_toArray, List.set_cons_succ, List.set_cons_zero]
      refine wpAnyY_takeD (i := 4) 79 (v := .int .i64 (p : Int)) rfl rfl (by kernel_rfl) (by kernel_rfl) (late_of (by kernel_rfl)) (by kernel_rfl) (by kernel_rfl) (fun _ _ _ h => h) HS.out (Or.inl ⟨by rfl, by (intro W hW; obtain ⟨e0, e1, e2⟩ := hW; go_simp)⟩) ?_
      simp only [Act.put, List.setIfInBounds_toArray, List.set_cons_succ, List.set_cons_zero]
      refine wpAnyY_pure (i := 5) 80 (v := .pointer (some ⟨w.heap.size, 10, none⟩)) rfl rfl (by kernel_rfl) (by kernel_rfl) (by kernel_rfl) (fun _ _ _ h => h) (Or.inl ⟨by rfl, by (intro W _; go_simp)⟩) ?_
      simp only [Act.put, List.setIfInBounds_toArray, List.set_cons_succ, List.set_cons_zero]
      refine wpAnyY_takeD (i := 6) 81 (v := .int .i64 i) rfl rfl (by kernel_rfl) (by kernel_rfl) (late_of (by kernel_rfl)) (by kernel_rfl) (by kernel_rfl) (fun _ _ _ h => h) HS.out (Or.inl ⟨by rfl, by (intro W hW; obtain ⟨e0, e1, e2⟩ := hW; go_simp)⟩) ?_
      simp only [Act.put, List.setIfInBounds_toArray, List.set_cons_succ, List.set_cons_zero]
      refine wpAnyY_pure (i := 7) 82 (v := .pointer (some ⟨w.heap.size, 11, none⟩)) rfl rfl (by kernel_rfl) (by kernel_rfl) (by kernel_rfl) (fun _ _ _ h => h) (Or.inl ⟨by rfl, by (intro W _; go_simp)⟩) ?_
      simp only [Act.put, List.setIfInBounds_toArray, List.set_cons_succ, List.set_cons_zero]
      refine wpAnyY_takeD (i := 8) 83 (v := .int .i64 j) rfl rfl (by kernel_rfl) (by kernel_rfl) (late_of (by kernel_rfl)) (by kernel_rfl) (by kernel_rfl) (fun _ _ _ h => h) HS.out (Or.inl ⟨by rfl, by (intro W hW; obtain ⟨e0, e1, e2⟩ := hW; go_simp)⟩) ?_
      simp only [Act.put, List.setIfInBounds_toArray, List.set_cons_succ, List.set_cons_zero]
      refine wpAnyY_one (i := 9) rfl (by kernel_rfl) (fun Kc hKc => ?_)
      refine step_fnD 84 rfl (by rfl) 28 _ _ rfl Try.f28 Try.func28 (by kernel_rfl) (by kernel_rfl) #[.pointer (some ⟨g, 0, none⟩), .int .i64 (p : Int), .int .i64 i, .int .i64 j] (by simp [Act.eval]) (HM.out _ HA2.out.1.low p) ?_
      rintro e2 w3 ⟨rfl, hb3⟩
      refine ⟨_, rfl, hKc.out _ _ (fun _ h => ⟨cell_bl hb3 h.1, cell_bl hb3 h.2.1, cell_bl hb3 h.2.2⟩) ?_⟩
      clear hKc Kc
      simp only [Act.put, List.setIfInBounds_toArray, List.set_cons_succ, List.set_cons_zero]
      refine wpAnyY_pure (i := 10) 14 (v := .int .i64 (m p : Int)) rfl rfl (by kernel_rfl) (by kernel_rfl) (by kernel_rfl) (fun _ _ _ h => h) (Or.inl ⟨by rfl, by (intro W _; go_simp)⟩) ?_
      simp only [Act.put, List.setIfInBounds_toArray, List.set_cons_succ, List.set_cons_zero]
      refine wpAnyY_done (by kernel_rfl) ?_ _
      have H3 : Hid (Gt w w3 s i j S (i - 1) (j - 1) (some ⟨lb, lo, none⟩) n ac l ∧ w3.heap[ax]? = some (.cells #[.int .i64 (p : Int), .int .i64 (bt : Int), .int .i64 (pf : Int), .int .i64 a3] 86 (0, 0))) := ⟨HA2.out.1.next hb3, by rw [hb3.block _ (lt_block HA2.out.2)]; exact HA2.out.2⟩
      clear hb3 HA2 HS HM
      have HBt : Hid ((bits .and .i64 ((m p : Int) / 2 ^ bt) 1 == 1) = (m p).testBit bt) := tst_one (HK.out p)
      have hmk : (m p : Int) < 65536 := by have := HK.out p; omega
      have hmk0 : 0 ≤ (m p : Int) := by omega
      clear HK
      generalize m p = mk at *
      have x0 := cell_block H3.out.2 0 _ rfl
      have x1 := cell_block H3.out.2 1 _ rfl
      have x2 := cell_block H3.out.2 2 _ rfl
      have x3 := cell_block H3.out.2 3 _ rfl
      have y0 := cell_block H3.out.1.bx p (.bool (s p)) (stC_get _ _ _ hp10)
      by_cases h1 : a3 = 1
      rotate_left
      · have e1 : (a3 == 1) = false := by simpa using h1
        have HE : Hid (goL m s 1 (l.take (k + 1)) = (S, ab)) := by show _ = _; rw [HTk.out, if_neg (fun z => h1 z.1)]
        clear HTk h1 HBt
        go_wp2
        go_roundg (gk - 1)
        case rel => exact ⟨k + 1, by omega, by go_num, by rw [HE.out], by rw [HE.out]; exact H3.out.1⟩
        case measure => omega
      subst h1
      cases hsp : s p with
      | false =>
        rw [hsp] at y0
        have HE : Hid (goL m s 1 (l.take (k + 1)) = (S, ab)) := by show _ = _; rw [HTk.out, if_neg (fun z => by rw [hsp] at z; cases z.2)]
        clear HTk hsp HBt
        go_wp2
        go_roundg (gk - 1)
        case rel => exact ⟨k + 1, by omega, by go_num, by rw [HE.out], by rw [HE.out]; exact H3.out.1⟩
        case measure => omega
      | true =>
        rw [hsp] at y0
        cases htb : mk.testBit bt with
        | false =>
          have e2 : (bits .and .i64 ((mk : Int) / 2 ^ bt) 1 == 1) = false := by rw [HBt.out, htb]
          have HE : Hid (goL m s 1 (l.take (k + 1)) = (S, ab)) := by show _ = _; rw [HTk.out, if_neg (fun z => by rw [hsp, htb] at z; cases z.2)]
          clear HTk hsp HBt htb
          go_wp2
          go_roundg (gk - 1)
          case rel => exact ⟨k + 1, by omega, by go_num, by rw [HE.out], by rw [HE.out]; exact H3.out.1⟩
          case measure => omega
        | true =>
          have e2 : (bits .and .i64 ((mk : Int) / 2 ^ bt) 1 == 1) = true := by rw [HBt.out, htb]
          have HE : Hid (goL m s 1 (l.take (k + 1)) = (putP S pf, true)) := by show _ = _; rw [HTk.out, if_pos ⟨rfl, by rw [hsp, htb]; rfl⟩]
          have H4 : Hid (Gt w (w3.setCell ⟨w.heap.size + 2, pf, none⟩ (.bool true)) s i j (putP S pf) (i - 1) (j - 1) (some ⟨lb, lo, none⟩) n ac l) := H3.out.1.put hpf10
          have z0 := cell_block H3.out.1.tb pf (.bool (S pf)) (stC_get _ _ _ hpf10)
          have zf := frozen_of_row _ _ pf _ _ H3.out.1.tb
          clear HTk hsp HBt htb H3
          go_wp2
          go_roundg (gk - 1)
          case rel => exact ⟨k + 1, by omega, by go_num, by rw [HE.out], by rw [HE.out]; exact H4⟩
          case measure => omega

end Go.Proofs.Ytnkfibahkmmnpaa
namespace Go.Proofs.Ytnkfibahkmmnpaa
open Go.RowKit

set_option maxRecDepth 10000 in
set_option maxHeartbeats 4000000 in
theorem goes_2 {w : World} {g gs P X Y : Nat} {ta : Sl} {F : Nat → Ct} {e : En} {sp : Int} (hT : Tb w g gs P X Y ta F e sp) (l : List Qd) (ha : QdsAt w ta.a ta.n l) (hl : ta.n ≤ 100000) (s : Nat → Bool) (i j : Int)
    (hi : -70000 ≤ i ∧ i ≤ 70000) (hj : -70000 ≤ j ∧ j ≤ 70000) (hm : ∀ p, okN (atB P X Y F p i j)) (hr : ∀ a ∈ l, (0 ≤ a.1 ∧ a.1 < 10) ∧ (0 ≤ a.2.1 ∧ a.2.1 ≤ 15) ∧ (0 ≤ a.2.2.1 ∧ a.2.2.1 < 10) ∧ (1 ≤ a.2.2.2 ∧ a.2.2.2 ≤ 3)) :
    Calls Try.prog 14 #[.pointer (some ⟨g, 0, none⟩), .agg (stC s i j), .int .u8 68] w fun r w' => r = .returned (.tuple #[.agg (stC (goL (msk P X Y F i j) s 2 l).1 (i - 1) j), .bool (goL (msk P X Y F i j) s 2 l).2]) ∧ Below w.heap.size w w' := by
  have hres : Try.f14.results = #[.cell 6 48, .tmp 7] := by kernel_rfl
  have HA : Hid (∀ W, Below w.heap.size w W → Calls Try.prog 25 #[.pointer (some ⟨g, 0, none⟩)] W (ArPost l W)) := fun W hW => arrows_calls (hT.next hW) l (ha.below hW) hl
  have HM : Hid (∀ W, Below w.heap.size w W → ∀ p : Nat, Calls Try.prog 28 #[.pointer (some ⟨g, 0, none⟩), .int .i64 (p : Int), .int .i64 i, .int .i64 j] W fun r w' => r = .returned (.int .i64 (msk P X Y F i j p : Int)) ∧ Below W.heap.size W w') := fun W hW p => by
    have := mask_calls (hT.next hW) p i j (hm p)
    unfold msk
    rw [Int.toNat_of_nonneg (hm p).1]
    exact this
  have HK : Hid (∀ p : Int, msk P X Y F i j p < 65536) := fun p => by unfold msk; have := hm p; unfold okN at this; omega
  have HR : Hid (∀ a ∈ l, (0 ≤ a.1 ∧ a.1 < 10) ∧ (0 ≤ a.2.1 ∧ a.2.1 ≤ 15) ∧ (0 ≤ a.2.2.1 ∧ a.2.2.1 < 10) ∧ (1 ≤ a.2.2.2 ∧ a.2.2.2 ≤ 3)) := hr
  obtain ⟨m, hmm⟩ : ∃ m, msk P X Y F i j = m := ⟨_, rfl⟩
  rw [hmm] at HM HK ⊢
  have H0 := gt_start w s i j (i - 1) j
  have H0h : Hid (_ ∧ _) := H0
  have HR0 : Hid (goL m s 2 [] = (fun _ => false, false)) := rfl
  obtain ⟨hi1, hi2⟩ := hi
  obtain ⟨hj1, hj2⟩ := hj
  have hln : l.length = ta.n := ha.length
  have hl4 : ta.n ≤ 100000 := hl
  obtain ⟨n, hn⟩ : ∃ n, l.length = n := ⟨_, rfl⟩
  rw [hn] at hln
  have HN : Hid (l.length = n) := hn
  have hn5 : n ≤ 100000 := by omega
  clear hT ha hl hm hr hmm H0 hln hl4 hn
  unfold stC at H0h ⊢
  go_enter Try.func14, Try.ntmps14
  go_wp2_with fail
  refine (HA.out _ H0h.out.2.2.2).mono ?_
  rintro e1 w1 ⟨aa, ac, rfl, ho, hb1⟩
  rw [HN.out] at ho ⊢
  have H1 : Hid (Gt w w1 s i j (fun _ => false) (i - 1) j aa n ac l) := ⟨by rw [hb1.block _ (lt_block H0h.out.1)]; exact H0h.out.1, by rw [hb1.block _ (lt_block H0h.out.2.1)]; exact H0h.out.2.1, by rw [hb1.block _ (lt_block H0h.out.2.2.1)]; exact H0h.out.2.2.1, H0h.out.2.2.2.trans (hb1.mono H0h.out.2.2.2.size), owned_base ho H0h.out.2.2.2.size⟩
  clear ho hb1 H0h HA
  go_wp2
  go_loopg [10, 12, 13, 14] n (fun q av kv _ _ wr => ∃ k : Nat, k + q = n ∧ kv = .int .i64 k ∧ av = .bool (goL m s 2 (l.take k)).2 ∧ Hid (Gt w wr s i j (goL m s 2 (l.take k)).1 (i - 1) j aa n ac l))
  case atStart =>
    refine ⟨0, by omega, rfl, ?_, ?_⟩
    · rw [List.take_zero, HR0.out]
    · rw [List.take_zero, HR0.out]; exact H1
  case round =>
    clear H1 HR0
    obtain ⟨k, hkq, rfl, rfl, HP⟩ := hrel
    by_cases hk : k < n
    rotate_left
    · have hd : decide ((k : Int) < (n : Int)) = false := decide_eq_false (by omega)
      have hkn : k = n := by omega
      subst hkn
      have hlt2 : l.take k = l := by rw [← HN.out]; exact List.take_length
      rw [hlt2] at HP ⊢
      clear hlt2
      obtain ⟨R, hR⟩ : ∃ R, goL m s 2 l = R := ⟨_, rfl⟩
      have HRR : Hid (goL m s 2 l = R) := hR
      rw [hR] at HP ⊢
      clear hR
      obtain ⟨S, ab⟩ := R
      simp only at HP ⊢
      have c0 := cell_block HP.out.tb 0 (.bool (S 0)) rfl
      have c1 := cell_block HP.out.tb 1 (.bool (S 1)) rfl
      have c2 := cell_block HP.out.tb 2 (.bool (S 2)) rfl
      have c3 := cell_block HP.out.tb 3 (.bool (S 3)) rfl
      have c4 := cell_block HP.out.tb 4 (.bool (S 4)) rfl
      have c5 := cell_block HP.out.tb 5 (.bool (S 5)) rfl
      have c6 := cell_block HP.out.tb 6 (.bool (S 6)) rfl
      have c7 := cell_block HP.out.tb 7 (.bool (S 7)) rfl
      have c8 := cell_block HP.out.tb 8 (.bool (S 8)) rfl
      have c9 := cell_block HP.out.tb 9 (.bool (S 9)) rfl
      have c10 := cell_block HP.out.tb 10 (.int .i64 (i - 1)) rfl
      have c11 := cell_block HP.out.tb 11 (.int .i64 j) rfl
      have rf : ∀ k, wr.frozen? ⟨w.heap.size + 1, k, none⟩ = false := fun k => frozen_of_row _ _ k _ _ HP.out.res
      have d0 := cell_block HP.out.res 0 (.bool false) rfl
      have d1 := cell_block HP.out.res 1 (.bool false) rfl
      have d2 := cell_block HP.out.res 2 (.bool false) rfl
      have d3 := cell_block HP.out.res 3 (.bool false) rfl
      have d4 := cell_block HP.out.res 4 (.bool false) rfl
      have d5 := cell_block HP.out.res 5 (.bool false) rfl
      have d6 := cell_block HP.out.res 6 (.bool false) rfl
      have d7 := cell_block HP.out.res 7 (.bool false) rfl
      have d8 := cell_block HP.out.res 8 (.bool false) rfl
      have d9 := cell_block HP.out.res 9 (.bool false) rfl
      have d10 := cell_block HP.out.res 10 (.int .i64 0) rfl
      have d11 := cell_block HP.out.res 11 (.int .i64 0) rfl
      have HB : Hid (Below w.heap.size w ((((((((((((wr.setCell ⟨w.heap.size + 1, 0, none⟩ (.bool (S 0))).setCell ⟨w.heap.size + 1, 1, none⟩ (.bool (S 1))).setCell ⟨w.heap.size + 1, 2, none⟩ (.bool (S 2))).setCell ⟨w.heap.size + 1, 3, none⟩ (.bool (S 3))).setCell ⟨w.heap.size + 1, 4, none⟩ (.bool (S 4))).setCell ⟨w.heap.size + 1, 5, none⟩ (.bool (S 5))).setCell ⟨w.heap.size + 1, 6, none⟩ (.bool (S 6))).setCell ⟨w.heap.size + 1, 7, none⟩ (.bool (S 7))).setCell ⟨w.heap.size + 1, 8, none⟩ (.bool (S 8))).setCell ⟨w.heap.size + 1, 9, none⟩ (.bool (S 9))).setCell ⟨w.heap.size + 1, 10, none⟩ (.int .i64 (i - 1))).setCell ⟨w.heap.size + 1, 11, none⟩ (.int .i64 j))) := HP.out.fin
      have HX : Hid (∀ W : World, Below w.heap.size w W → Ending.returned (.tuple #[.agg #[.bool (S 0), .bool (S 1), .bool (S 2), .bool (S 3), .bool (S 4), .bool (S 5), .bool (S 6), .bool (S 7), .bool (S 8), .bool (S 9), .int .i64 (i - 1), .int .i64 j], .bool ab]) = .returned (.tuple #[.agg (stC (goL m s 2 l).1 (i - 1) j), .bool (goL m s 2 l).2]) ∧ Below w.heap.size w W) := fun W hW => ⟨by rw [HRR.out]; rfl, hW⟩
      clear HP HM HK HR HN
      go_wp2
      refine bodyPost_ret (v := .tuple #[.agg #[.bool (S 0), .bool (S 1), .bool (S 2), .bool (S 3), .bool (S 4), .bool (S 5), .bool (S 6), .bool (S 7), .bool (S 8), .bool (S 9), .int .i64 (i - 1), .int .i64 j], .bool ab]) ?_ rfl (HX.out _ HB.out)
      simp only [results, hres]
      go_simp
    · have hd : decide ((k : Int) < (n : Int)) = true := decide_eq_true (by omega)
      obtain ⟨lb, lo, hla, hlc⟩ := (qds_owned HP.out.ar).cells (by omega)
      have hkl : k < l.length := by rw [HN.out]; exact hk
      obtain ⟨⟨a0, a1, a2, a3⟩, hak⟩ : ∃ a : Qd, l[k]? = some a := ⟨l[k], List.getElem?_eq_getElem hkl⟩
      have hmem : (a0, a1, a2, a3) ∈ l := List.mem_of_getElem? hak
      obtain ⟨r0, r1, r2, r3⟩ := HR.out _ hmem
      simp only at r0 r1 r2 r3
      have htk : goL m s 2 (l.take (k + 1)) = goS m s 2 (goL m s 2 (l.take k)) (a0, a1, a2, a3) := by
        rw [← goL_snoc]
        congr 1
        rw [List.take_add_one, hak]; rfl
      obtain ⟨q0, q1, q2, q3⟩ := hlc k _ hak
      simp only at q0 q1 q2 q3
      obtain rfl := hla
      clear hlc hmem hak hkl
      obtain ⟨p, hp⟩ : ∃ p : Nat, a0 = p := ⟨a0.toNat, by omega⟩
      obtain ⟨bt, hbt⟩ : ∃ bt : Nat, a1 = bt := ⟨a1.toNat, by omega⟩
      obtain ⟨pf, hpf⟩ : ∃ pf : Nat, a2 = pf := ⟨a2.toNat, by omega⟩
      subst hp
      subst hbt
      subst hpf
      have HTk : Hid (goL m s 2 (l.take (k + 1)) = if a3 = 2 ∧ (s p && (m p).testBit bt) = true then (putP (goL m s 2 (l.take k)).1 pf, true) else goL m s 2 (l.take k)) := by
        show _ = _
        rw [htk]; unfold goS openB; simp only [Int.toNat_natCast]
      clear htk
      generalize goL m s 2 (l.take k) = R at *
      obtain ⟨S, ab⟩ := R
      simp only at HP HTk ⊢
      have hp10 : p < 10 := by omega
      have hpf10 : pf < 10 := by omega
      have hp10i : (p : Int) < 10 := by omega
      have hpf10i : (pf : Int) < 10 := by omega
      have hbt16 : (bt : Int) < 16 := by omega
      have d1 : decide ((9 : Int) < (p : Int)) = false := decide_eq_false (by omega)
      have d2 : decide ((9 : Int) < (pf : Int)) = false := decide_eq_false (by omega)
      have d3 : decide ((15 : Int) < (bt : Int)) = false := decide_eq_false (by omega)
      have hbw : w.heap.size + 2 < wr.heap.size := lt_block HP.out.tb
      have hgk : 0 < gk := by omega
      have HA2 : Hid (Gt w (wr.alloc (.cells #[.int .i64 (p : Int), .int .i64 (bt : Int), .int .i64 (pf : Int), .int .i64 a3] 86)).drew s i j S (i - 1) j (some ⟨lb, lo, none⟩) n ac l ∧ (wr.alloc (.cells #[.int .i64 (p : Int), .int .i64 (bt : Int), .int .i64 (pf : Int), .int .i64 a3] 86)).drew.heap[wr.heap.size]? = some (.cells #[.int .i64 (p : Int), .int .i64 (bt : Int), .int .i64 (pf : Int), .int .i64 a3] 86 (0, 0))) := ⟨HP.out.next (below_new _).drew, heap_alloc_new _ _⟩
      clear HP
      go_upto_region 18 with (fail)
      clear q0 q1 q2 q3
      obtain ⟨ax, hax⟩ : ∃ ax, wr.heap.size = ax := ⟨_, rfl⟩
      obtain ⟨wd, hwd⟩ : ∃ wd, wd = wr.alloc (.cells #[.int .i64 (p : Int), .int .i64 (bt : Int), .int .i64 (pf : Int), .int .i64 a3] 86) := ⟨_, rfl⟩
      rw [← hwd, hax] at HA2 ⊢
      have hax2 : w.heap.size + 2 < ax := by omega
      clear hwd hax hbw
      have HS : Hid ((fun W : World => W.cell? ⟨ax, 0, none⟩ = some (.int .i64 (p : Int)) ∧ W.cell? ⟨w.heap.size, 10, none⟩ = some (.int .i64 i) ∧ W.cell? ⟨w.heap.size, 11, none⟩ = some (.int .i64 j)) wd.drew) := ⟨cell_block HA2.out.2 0 _ rfl, cell_block HA2.out.1.bx 10 _ rfl, cell_block HA2.out.1.bx 11 _ rfl⟩
      refine wp_region_Y (fun j => [].contains j) (fun W : World => W.cell? ⟨ax, 0, none⟩ = some (.int .i64 (p : Int)) ∧ W.cell? ⟨w.heap.size, 10, none⟩ = some (.int .i64 i) ∧ W.cell? ⟨w.heap.size, 11, none⟩ = some (.int .i64 j)) (by kernel_rfl) ?_
      refine wpAnyY_pure (i := 0) 75 (v := .pointer (some ⟨g, 0, none⟩)) rfl rfl (by kernel_rfl) (by kernel_rfl) (by kernel_rfl) (fun _ _ _ h => h) (Or.inl ⟨by rfl, by (intro W _; go_simp)⟩) ?_
      simp only [Act.put, List.setIfInBounds_toArray, List.set_cons_succ, List.set_cons_zero]
      refine wpAnyY_pure (i := 1) 76 (v := .pointer (some ⟨g, 0, none⟩)) rfl rfl (by kernel_rfl) (by kernel_rfl) (by kernel_rfl) (fun _ _ _ h => h) (Or.inl ⟨by rfl, by (intro W _; go_simp)⟩) ?_
      simp only [Act.put, List.setIfInBounds_toArray, List.set_cons_succ, List.set_cons_zero]
      refine wpAnyY_pure (i := 2) 77 (v := .pointer (some ⟨g, 0, none⟩)) rfl rfl (by kernel_rfl) (by kernel_rfl) (by kernel_rfl) (fun _ _ _ h => h) (Or.inl ⟨by rfl, by (intro W _; go_simp)⟩) ?_
      simp only [Act.put, List.setIfInBounds_toArray, List.set_cons_succ, List.set_cons_zero]
      refine wpAnyY_pure (i := 3) 78 (v := .pointer (some ⟨ax, 0, none⟩)) rfl rfl (by kernel_rfl) (by kernel_rfl) (by kernel_rfl) (fun _ _ _ h => h) (Or.inl ⟨by rfl, by (intro W _; go_simp)⟩) ?_
      simp only [Act.put, List.setIfInBounds_toArray, List.set_cons_succ, List.set_cons_zero]
      refine wpAnyY_takeD (i := 4) 79 (v := .int .i64 (p : Int)) rfl rfl (by kernel_rfl) (by kernel_rfl) (late_of (by kernel_rfl)) (by kernel_rfl) (by kernel_rfl) (fun _ _ _ h => h) HS.out (Or.inl ⟨by rfl, by (intro W hW; obtain ⟨e0, e1, e2⟩ := hW; go_simp)⟩) ?_
      simp only [Act.put, List.setIfInBounds_toArray, List.set_cons_succ, List.set_cons_zero]
      refine wpAnyY_pure (i := 5) 80 (v := .pointer (some ⟨w.heap.size, 10, none⟩)) rfl rfl (by kernel_rfl) (by kernel_rfl) (by kernel_rfl) (fun _ _ _ h => h) (Or.inl ⟨by rfl, by (intro W _; go_simp)⟩) ?_
      simp only [Act.put, List.setIfInBounds_toArray, List.set_cons_succ, List.set_cons_zero]
      refine wpAnyY_takeD (i := 6) 81 (v := .int .i64 i) rfl rfl (by kernel_rfl) (by kernel_rfl) (late_of (by kernel_rfl)) (by kernel_rfl) (by kernel_rfl) (fun _ _ _ h => h) HS.out (Or.inl ⟨by rfl, by (intro W hW; obtain ⟨e0, e1, e2⟩ := hW; go_simp)⟩) ?_
      simp only [Act.put, List.setIfInBounds_toArray, List.set_cons_succ, List.set_cons_zero]
      refine wpAnyY_pure (i := 7) 82 (v := .pointer (some ⟨w.heap.size, 11, none⟩)) rfl rfl (by kernel_rfl) (by kernel_rfl) (by kernel_rfl) (fun _ _ _ h => h) (Or.inl ⟨by rfl, by (intro W _; go_simp)⟩) ?_
      simp only [Act.put, List.setIfInBounds_toArray, List.set_cons_succ, List.set_cons_zero]
      refine wpAnyY_takeD (i := 8) 83 (v := .int .i64 j) rfl rfl (by kernel_rfl) (by kernel_rfl) (late_of (by kernel_rfl)) (by kernel_rfl) (by kernel_rfl) (fun _ _ _ h => h) HS.out (Or.inl ⟨by rfl, by (intro W hW; obtain ⟨e0, e1, e2⟩ := hW; go_simp)⟩) ?_
      simp only [Act.put, List.setIfInBounds_toArray, List.set_cons_succ, List.set_cons_zero]
      refine wpAnyY_one (i := 9) rfl (by kernel_rfl) (fun Kc hKc => ?_)
      refine step_fnD 84 rfl (by rfl) 28 _ _ rfl Try.f28 Try.func28 (by kernel_rfl) (by kernel_rfl) #[.pointer (some ⟨g, 0, none⟩), .int .i64 (p : Int), .int .i64 i, .int .i64 j] (by simp [Act.eval]) (HM.out _ HA2.out.1.low p) ?_
      rintro e2 w3 ⟨rfl, hb3⟩
      refine ⟨_, rfl, hKc.out _ _ (fun _ h => ⟨cell_bl hb3 h.1, cell_bl hb3 h.2.1, cell_bl hb3 h.2.2⟩) ?_⟩
      clear hKc Kc
      simp only [Act.put, List.setIfInBounds_toArray, List.set_cons_succ, List.set_cons_zero]
      refine wpAnyY_pure (i := 10) 14 (v := .int .i64 (m p : Int)) rfl rfl (by kernel_rfl) (by kernel_rfl) (by kernel_rfl) (fun _ _ _ h => h) (Or.inl ⟨by rfl, by (intro W _; go_simp)⟩) ?_
      simp only [Act.put, List.setIfInBounds_toArray, List.set_cons_succ, List.set_cons_zero]
      refine wpAnyY_done (by kernel_rfl) ?_ _
      have H3 : Hid (Gt w w3 s i j S (i - 1) j (some ⟨lb, lo, none⟩) n ac l ∧ w3.heap[ax]? = some (.cells #[.int .i64 (p : Int), .int .i64 (bt : Int), .int .i64 (pf : Int), .int .i64 a3] 86 (0, 0))) := ⟨HA2.out.1.next hb3, by rw [hb3.block _ (lt_block HA2.out.2)]; exact HA2.out.2⟩
      clear hb3 HA2 HS HM
      have HBt : Hid ((bits .and .i64 ((m p : Int) / 2 ^ bt) 1 == 1) = (m p).testBit bt) := tst_one (HK.out p)
      have hmk : (m p : Int) < 65536 := by have := HK.out p; omega
      have hmk0 : 0 ≤ (m p : Int) := by omega
      clear HK
      generalize m p = mk at *
      have x0 := cell_block H3.out.2 0 _ rfl
      have x1 := cell_block H3.out.2 1 _ rfl
      have x2 := cell_block H3.out.2 2 _ rfl
      have x3 := cell_block H3.out.2 3 _ rfl
      have y0 := cell_block H3.out.1.bx p (.bool (s p)) (stC_get _ _ _ hp10)
      by_cases h1 : a3 = 2
      rotate_left
      · have e1 : (a3 == 2) = false := by simpa using h1
        have HE : Hid (goL m s 2 (l.take (k + 1)) = (S, ab)) := by show _ = _; rw [HTk.out, if_neg (fun z => h1 z.1)]
        clear HTk h1 HBt
        go_wp2
        go_roundg (gk - 1)
        case rel => exact ⟨k + 1, by omega, by go_num, by rw [HE.out], by rw [HE.out]; exact H3.out.1⟩
        case measure => omega
      subst h1
      cases hsp : s p with
      | false =>
        rw [hsp] at y0
        have HE : Hid (goL m s 2 (l.take (k + 1)) = (S, ab)) := by show _ = _; rw [HTk.out, if_neg (fun z => by rw [hsp] at z; cases z.2)]
        clear HTk hsp HBt
        go_wp2
        go_roundg (gk - 1)
        case rel => exact ⟨k + 1, by omega, by go_num, by rw [HE.out], by rw [HE.out]; exact H3.out.1⟩
        case measure => omega
      | true =>
        rw [hsp] at y0
        cases htb : mk.testBit bt with
        | false =>
          have e2 : (bits .and .i64 ((mk : Int) / 2 ^ bt) 1 == 1) = false := by rw [HBt.out, htb]
          have HE : Hid (goL m s 2 (l.take (k + 1)) = (S, ab)) := by show _ = _; rw [HTk.out, if_neg (fun z => by rw [hsp, htb] at z; cases z.2)]
          clear HTk hsp HBt htb
          go_wp2
          go_roundg (gk - 1)
          case rel => exact ⟨k + 1, by omega, by go_num, by rw [HE.out], by rw [HE.out]; exact H3.out.1⟩
          case measure => omega
        | true =>
          have e2 : (bits .and .i64 ((mk : Int) / 2 ^ bt) 1 == 1) = true := by rw [HBt.out, htb]
          have HE : Hid (goL m s 2 (l.take (k + 1)) = (putP S pf, true)) := by show _ = _; rw [HTk.out, if_pos ⟨rfl, by rw [hsp, htb]; rfl⟩]
          have H4 : Hid (Gt w (w3.setCell ⟨w.heap.size + 2, pf, none⟩ (.bool true)) s i j (putP S pf) (i - 1) j (some ⟨lb, lo, none⟩) n ac l) := H3.out.1.put hpf10
          have z0 := cell_block H3.out.1.tb pf (.bool (S pf)) (stC_get _ _ _ hpf10)
          have zf := frozen_of_row _ _ pf _ _ H3.out.1.tb
          clear HTk hsp HBt htb H3
          go_wp2
          go_roundg (gk - 1)
          case rel => exact ⟨k + 1, by omega, by go_num, by rw [HE.out], by rw [HE.out]; exact H4⟩
          case measure => omega

end Go.Proofs.Ytnkfibahkmmnpaa
namespace Go.Proofs.Ytnkfibahkmmnpaa
open Go.RowKit

set_option maxRecDepth 10000 in
set_option maxHeartbeats 4000000 in
theorem goes_3 {w : World} {g gs P X Y : Nat} {ta : Sl} {F : Nat → Ct} {e : En} {sp : Int} (hT : Tb w g gs P X Y ta F e sp) (l : List Qd) (ha : QdsAt w ta.a ta.n l) (hl : ta.n ≤ 100000) (s : Nat → Bool) (i j : Int)
    (hi : -70000 ≤ i ∧ i ≤ 70000) (hj : -70000 ≤ j ∧ j ≤ 70000) (hm : ∀ p, okN (atB P X Y F p i j)) (hr : ∀ a ∈ l, (0 ≤ a.1 ∧ a.1 < 10) ∧ (0 ≤ a.2.1 ∧ a.2.1 ≤ 15) ∧ (0 ≤ a.2.2.1 ∧ a.2.2.1 < 10) ∧ (1 ≤ a.2.2.2 ∧ a.2.2.2 ≤ 3)) :
    Calls Try.prog 14 #[.pointer (some ⟨g, 0, none⟩), .agg (stC s i j), .int .u8 73] w fun r w' => r = .returned (.tuple #[.agg (stC (goL (msk P X Y F i j) s 3 l).1 i (j - 1)), .bool (goL (msk P X Y F i j) s 3 l).2]) ∧ Below w.heap.size w w' := by
  have hres : Try.f14.results = #[.cell 6 48, .tmp 7] := by kernel_rfl
  have HA : Hid (∀ W, Below w.heap.size w W → Calls Try.prog 25 #[.pointer (some ⟨g, 0, none⟩)] W (ArPost l W)) := fun W hW => arrows_calls (hT.next hW) l (ha.below hW) hl
  have HM : Hid (∀ W, Below w.heap.size w W → ∀ p : Nat, Calls Try.prog 28 #[.pointer (some ⟨g, 0, none⟩), .int .i64 (p : Int), .int .i64 i, .int .i64 j] W fun r w' => r = .returned (.int .i64 (msk P X Y F i j p : Int)) ∧ Below W.heap.size W w') := fun W hW p => by
    have := mask_calls (hT.next hW) p i j (hm p)
    unfold msk
    rw [Int.toNat_of_nonneg (hm p).1]
    exact this
  have HK : Hid (∀ p : Int, msk P X Y F i j p < 65536) := fun p => by unfold msk; have := hm p; unfold okN at this; omega
  have HR : Hid (∀ a ∈ l, (0 ≤ a.1 ∧ a.1 < 10) ∧ (0 ≤ a.2.1 ∧ a.2.1 ≤ 15) ∧ (0 ≤ a.2.2.1 ∧ a.2.2.1 < 10) ∧ (1 ≤ a.2.2.2 ∧ a.2.2.2 ≤ 3)) := hr
  obtain ⟨m, hmm⟩ : ∃ m, msk P X Y F i j = m := ⟨_, rfl⟩
  rw [hmm] at HM HK ⊢
  have H0 := gt_start w s i j i (j - 1)
  have H0h : Hid (_ ∧ _) := H0
  have HR0 : Hid (goL m s 3 [] = (fun _ => false, false)) := rfl
  obtain ⟨hi1, hi2⟩ := hi
  obtain ⟨hj1, hj2⟩ := hj
  have hln : l.length = ta.n := ha.length
  have hl4 : ta.n ≤ 100000 := hl
  obtain ⟨n, hn⟩ : ∃ n, l.length = n := ⟨_, rfl⟩
  rw [hn] at hln
  have HN : Hid (l.length = n) := hn
  have hn5 : n ≤ 100000 := by omega
  clear hT ha hl hm hr hmm H0 hln hl4 hn
  unfold stC at H0h ⊢
  go_enter Try.func14, Try.ntmps14
  go_wp2_with fail
  refine (HA.out _ H0h.out.2.2.2).mono ?_
  rintro e1 w1 ⟨aa, ac, rfl, ho, hb1⟩
  rw [HN.out] at ho ⊢
  have H1 : Hid (Gt w w1 s i j (fun _ => false) i (j - 1) aa n ac l) := ⟨by rw [hb1.block _ (lt_block H0h.out.1)]; exact H0h.out.1, by rw [hb1.block _ (lt_block H0h.out.2.1)]; exact H0h.out.2.1, by rw [hb1.block _ (lt_block H0h.out.2.2.1)]; exact H0h.out.2.2.1, H0h.out.2.2.2.trans (hb1.mono H0h.out.2.2.2.size), owned_base ho H0h.out.2.2.2.size⟩
  clear ho hb1 H0h HA
  go_wp2
  go_loopg [10, 12, 13, 14] n (fun q av kv _ _ wr => ∃ k : Nat, k + q = n ∧ kv = .int .i64 k ∧ av = .bool (goL m s 3 (l.take k)).2 ∧ Hid (Gt w wr s i j (goL m s 3 (l.take k)).1 i (j - 1) aa n ac l))
  case atStart =>
    refine ⟨0, by omega, rfl, ?_, ?_⟩
    · rw [List.take_zero, HR0.out]
    · rw [List.take_zero, HR0.out]; exact H1
  case round =>
    clear H1 HR0
    obtain ⟨k, hkq, rfl, rfl, HP⟩ := hrel
    by_cases hk : k < n
    rotate_left
    · have hd : decide ((k : Int) < (n : Int)) = false := decide_eq_false (by omega)
      have hkn : k = n := by omega
      subst hkn
      have hlt2 : l.take k = l := by rw [← HN.out]; exact List.take_length
      rw [hlt2] at HP ⊢
      clear hlt2
      obtain ⟨R, hR⟩ : ∃ R, goL m s 3 l = R := ⟨_, rfl⟩
      have HRR : Hid (goL m s 3 l = R) := hR
      rw [hR] at HP ⊢
      clear hR
      obtain ⟨S, ab⟩ := R
      simp only at HP ⊢
      have c0 := cell_block HP.out.tb 0 (.bool (S 0)) rfl
      have c1 := cell_block HP.out.tb 1 (.bool (S 1)) rfl
      have c2 := cell_block HP.out.tb 2 (.bool (S 2)) rfl
      have c3 := cell_block HP.out.tb 3 (.bool (S 3)) rfl
      have c4 := cell_block HP.out.tb 4 (.bool (S 4)) rfl
      have c5 := cell_block HP.out.tb 5 (.bool (S 5)) rfl
      have c6 := cell_block HP.out.tb 6 (.bool (S 6)) rfl
      have c7 := cell_block HP.out.tb 7 (.bool (S 7)) rfl
      have c8 := cell_block HP.out.tb 8 (.bool (S 8)) rfl
      have c9 := cell_block HP.out.tb 9 (.bool (S 9)) rfl
      have c10 := cell_block HP.out.tb 10 (.int .i64 i) rfl
      have c11 := cell_block HP.out.tb 11 (.int .i64 (j - 1)) rfl
      have rf : ∀ k, wr.frozen? ⟨w.heap.size + 1, k, none⟩ = false := fun k => frozen_of_row _ _ k _ _ HP.out.res
      have d0 := cell_block HP.out.res 0 (.bool false) rfl
      have d1 := cell_block HP.out.res 1 (.bool false) rfl
      have d2 := cell_block HP.out.res 2 (.bool false) rfl
      have d3 := cell_block HP.out.res 3 (.bool false) rfl
      have d4 := cell_block HP.out.res 4 (.bool false) rfl
      have d5 := cell_block HP.out.res 5 (.bool false) rfl
      have d6 := cell_block HP.out.res 6 (.bool false) rfl
      have d7 := cell_block HP.out.res 7 (.bool false) rfl
      have d8 := cell_block HP.out.res 8 (.bool false) rfl
      have d9 := cell_block HP.out.res 9 (.bool false) rfl
      have d10 := cell_block HP.out.res 10 (.int .i64 0) rfl
      have d11 := cell_block HP.out.res 11 (.int .i64 0) rfl
      have HB : Hid (Below w.heap.size w ((((((((((((wr.setCell ⟨w.heap.size + 1, 0, none⟩ (.bool (S 0))).setCell ⟨w.heap.size + 1, 1, none⟩ (.bool (S 1))).setCell ⟨w.heap.size + 1, 2, none⟩ (.bool (S 2))).setCell ⟨w.heap.size + 1, 3, none⟩ (.bool (S 3))).setCell ⟨w.heap.size + 1, 4, none⟩ (.bool (S 4))).setCell ⟨w.heap.size + 1, 5, none⟩ (.bool (S 5))).setCell ⟨w.heap.size + 1, 6, none⟩ (.bool (S 6))).setCell ⟨w.heap.size + 1, 7, none⟩ (.bool (S 7))).setCell ⟨w.heap.size + 1, 8, none⟩ (.bool (S 8))).setCell ⟨w.heap.size + 1, 9, none⟩ (.bool (S 9))).setCell ⟨w.heap.size + 1, 10, none⟩ (.int .i64 i)).setCell ⟨w.heap.size + 1, 11, none⟩ (.int .i64 (j - 1)))) := HP.out.fin
      have HX : Hid (∀ W : World, Below w.heap.size w W → Ending.returned (.tuple #[.agg #[.bool (S 0), .bool (S 1), .bool (S 2), .bool (S 3), .bool (S 4), .bool (S 5), .bool (S 6), .bool (S 7), .bool (S 8), .bool (S 9), .int .i64 i, .int .i64 (j - 1)], .bool ab]) = .returned (.tuple #[.agg (stC (goL m s 3 l).1 i (j - 1)), .bool (goL m s 3 l).2]) ∧ Below w.heap.size w W) := fun W hW => ⟨by rw [HRR.out]; rfl, hW⟩
      clear HP HM HK HR HN
      go_wp2
      refine bodyPost_ret (v := .tuple #[.agg #[.bool (S 0), .bool (S 1), .bool (S 2), .bool (S 3), .bool (S 4), .bool (S 5), .bool (S 6), .bool (S 7), .bool (S 8), .bool (S 9), .int .i64 i, .int .i64 (j - 1)], .bool ab]) ?_ rfl (HX.out _ HB.out)
      simp only [results, hres]
      go_simp
    · have hd : decide ((k : Int) < (n : Int)) = true := decide_eq_true (by omega)
      obtain ⟨lb, lo, hla, hlc⟩ := (qds_owned HP.out.ar).cells (by omega)
      have hkl : k < l.length := by rw [HN.out]; exact hk
      obtain ⟨⟨a0, a1, a2, a3⟩, hak⟩ : ∃ a : Qd, l[k]? = some a := ⟨l[k], List.getElem?_eq_getElem hkl⟩
      have hmem : (a0, a1, a2, a3) ∈ l := List.mem_of_getElem? hak
      obtain ⟨r0, r1, r2, r3⟩ := HR.out _ hmem
      simp only at r0 r1 r2 r3
      have htk : goL m s 3 (l.take (k + 1)) = goS m s 3 (goL m s 3 (l.take k)) (a0, a1, a2, a3) := by
        rw [← goL_snoc]
        congr 1
        rw [List.take_add_one, hak]; rfl
      obtain ⟨q0, q1, q2, q3⟩ := hlc k _ hak
      simp only at q0 q1 q2 q3
      obtain rfl := hla
      clear hlc hmem hak hkl
      obtain ⟨p, hp⟩ : ∃ p : Nat, a0 = p := ⟨a0.toNat, by omega⟩
      obtain ⟨bt, hbt⟩ : ∃ bt : Nat, a1 = bt := ⟨a1.toNat, by omega⟩
      obtain ⟨pf, hpf⟩ : ∃ pf : Nat, a2 = pf := ⟨a2.toNat, by omega⟩
      subst hp
      subst hbt
      subst hpf
      have HTk : Hid (goL m s 3 (l.take (k + 1)) = if a3 = 3 ∧ (s p && (m p).testBit bt) = true then (putP (goL m s 3 (l.take k)).1 pf, true) else goL m s 3 (l.take k)) := by
        show _ = _
        rw [htk]; unfold goS openB; simp only [Int.toNat_natCast]
      clear htk
      generalize goL m s 3 (l.take k) = R at *
      obtain ⟨S, ab⟩ := R
      simp only at HP HTk ⊢
      have hp10 : p < 10 := by omega
      have hpf10 : pf < 10 := by omega
      have hp10i : (p : Int) < 10 := by omega
      have hpf10i : (pf : Int) < 10 := by omega
      have hbt16 : (bt : Int) < 16 := by omega
      have d1 : decide ((9 : Int) < (p : Int)) = false := decide_eq_false (by omega)
      have d2 : decide ((9 : Int) < (pf : Int)) = false := decide_eq_false (by omega)
      have d3 : decide ((15 : Int) < (bt : Int)) = false := decide_eq_false (by omega)
      have hbw : w.heap.size + 2 < wr.heap.size := lt_block HP.out.tb
      have hgk : 0 < gk := by omega
      have HA2 : Hid (Gt w (wr.alloc (.cells #[.int .i64 (p : Int), .int .i64 (bt : Int), .int .i64 (pf : Int), .int .i64 a3] 86)).drew s i j S i (j - 1) (some ⟨lb, lo, none⟩) n ac l ∧ (wr.alloc (.cells #[.int .i64 (p : Int), .int .i64 (bt : Int), .int .i64 (pf : Int), .int .i64 a3] 86)).drew.heap[wr.heap.size]? = some (.cells #[.int .i64 (p : Int), .int .i64 (bt : Int), .int .i64 (pf : Int), .int .i64 a3] 86 (0, 0))) := ⟨HP.out.next (below_new _).drew, heap_alloc_new _ _⟩
      clear HP
      go_upto_region 18 with (fail)
      clear q0 q1 q2 q3
      obtain ⟨ax, hax⟩ : ∃ ax, wr.heap.size = ax := ⟨_, rfl⟩
      obtain ⟨wd, hwd⟩ : ∃ wd, wd = wr.alloc (.cells #[.int .i64 (p : Int), .int .i64 (bt : Int), .int .i64 (pf : Int), .int .i64 a3] 86) := ⟨_, rfl⟩
      rw [← hwd, hax] at HA2 ⊢
      have hax2 : w.heap.size + 2 < ax := by omega
      clear hwd hax hbw
      have HS : Hid ((fun W : World => W.cell? ⟨ax, 0, none⟩ = some (.int .i64 (p : Int)) ∧ W.cell? ⟨w.heap.size, 10, none⟩ = some (.int .i64 i) ∧ W.cell? ⟨w.heap.size, 11, none⟩ = some (.int .i64 j)) wd.drew) := ⟨cell_block HA2.out.2 0 _ rfl, cell_block HA2.out.1.bx 10 _ rfl, cell_block HA2.out.1.bx 11 _ rfl⟩
      refine wp_region_Y (fun j => [].contains j) (fun W : World => W.cell? ⟨ax, 0, none⟩ = some (.int .i64 (p : Int)) ∧ W.cell? ⟨w.heap.size, 10, none⟩ = some (.int .i64 i) ∧ W.cell? ⟨w.heap.size, 11, none⟩ = some (.int .i64 j)) (by kernel_rfl) ?_
      refine wpAnyY_pure (i := 0) 75 (v := .pointer (some ⟨g, 0, none⟩)) rfl rfl (by kernel_rfl) (by kernel_rfl) (by kernel_rfl) (fun _ _ _ h => h) (Or.inl ⟨by rfl, by (intro W _; go_simp)⟩) ?_
      simp only [Act.put, List.setIfInBounds_toArray, List.set_cons_succ, List.set_cons_zero]
      refine wpAnyY_pure (i := 1) 76 (v := .pointer (some ⟨g, 0, none⟩)) rfl rfl (by kernel_rfl) (by kernel_rfl) (by kernel_rfl) (fun _ _ _ h => h) (Or.inl ⟨by rfl, by (intro W _; go_simp)⟩) ?_
      simp only [Act.put, List.setIfInBounds_toArray, List.set_cons_succ, List.set_cons_zero]
      refine wpAnyY_pure (i := 2) 77 (v := .pointer (some ⟨g, 0, none⟩)) rfl rfl (by kernel_rfl) (by kernel_rfl) (by kernel_rfl) (fun _ _ _ h => h) (Or.inl ⟨by rfl, by (intro W _; go_simp)⟩) ?_
      simp only [Act.put, List.setIfInBounds_toArray, List.set_cons_succ, List.set_cons_zero]
      refine wpAnyY_pure (i := 3) 78 (v := .pointer (some ⟨ax, 0, none⟩)) rfl rfl (by kernel_rfl) (by kernel_rfl) (by kernel_rfl) (fun _ _ _ h => h) (Or.inl ⟨by rfl, by (intro W _; go_simp)⟩) ?_
      simp only [Act.put, List.setIfInBounds_toArray, List.set_cons_succ, List.set_cons_zero]
      refine wpAnyY_takeD (i := 4) 79 (v := .int .i64 (p : Int)) rfl rfl (by kernel_rfl) (by kernel_rfl) (late_of (by kernel_rfl)) (by kernel_rfl) (by kernel_rfl) (fun _ _ _ h => h) HS.out (Or.inl ⟨by rfl, by (intro W hW; obtain ⟨e0, e1, e2⟩ := hW; go_simp)⟩) ?_
      simp only [Act.put, List.setIfInBounds_toArray, List.set_cons_succ, List.set_cons_zero]
      refine wpAnyY_pure (i := 5) 80 (v := .pointer (some ⟨w.heap.size, 10, none⟩)) rfl rfl (by kernel_rfl) (by kernel_rfl) (by kernel_rfl) (fun _ _ _ h => h) (Or.inl ⟨by rfl, by (intro W _; go_simp)⟩) ?_
      simp only [Act.put, List.setIfInBounds_toArray, List.set_cons_succ, List.set_cons_zero]
      refine wpAnyY_takeD (i := 6) 81 (v := .int .i64 i) rfl rfl (by kernel_rfl) (by kernel_rfl) (late_of (by kernel_rfl)) (by kernel_rfl) (by kernel_rfl) (fun _ _ _ h => h) HS.out (Or.inl ⟨by rfl, by (intro W hW; obtain ⟨e0, e1, e2⟩ := hW; go_simp)⟩) ?_
      simp only [Act.put, List.setIfInBounds_toArray, List.set_cons_succ, List.set_cons_zero]
      refine wpAnyY_pure (i := 7) 82 (v := .pointer (some ⟨w.heap.size, 11, none⟩)) rfl rfl (by kernel_rfl) (by kernel_rfl) (by kernel_rfl) (fun _ _ _ h => h) (Or.inl ⟨by rfl, by (intro W _; go_simp)⟩) ?_
      simp only [Act.put, List.setIfInBounds_toArray, List.set_cons_succ, List.set_cons_zero]
      refine wpAnyY_takeD (i := 8) 83 (v := .int .i64 j) rfl rfl (by kernel_rfl) (by kernel_rfl) (late_of (by kernel_rfl)) (by kernel_rfl) (by kernel_rfl) (fun _ _ _ h => h) HS.out (Or.inl ⟨by rfl, by (intro W hW; obtain ⟨e0, e1, e2⟩ := hW; go_simp)⟩) ?_
      simp only [Act.put, List.setIfInBounds_toArray, List.set_cons_succ, List.set_cons_zero]
      refine wpAnyY_one (i := 9) rfl (by kernel_rfl) (fun Kc hKc => ?_)
      refine step_fnD 84 rfl (by rfl) 28 _ _ rfl Try.f28 Try.func28 (by kernel_rfl) (by kernel_rfl) #[.pointer (some ⟨g, 0, none⟩), .int .i64 (p : Int), .int .i64 i, .int .i64 j] (by simp [Act.eval]) (HM.out _ HA2.out.1.low p) ?_
      rintro e2 w3 ⟨rfl, hb3⟩
      refine ⟨_, rfl, hKc.out _ _ (fun _ h => ⟨cell_bl hb3 h.1, cell_bl hb3 h.2.1, cell_bl hb3 h.2.2⟩) ?_⟩
      clear hKc Kc
      simp only [Act.put, List.setIfInBounds_toArray, List.set_cons_succ, List.set_cons_zero]
      refine wpAnyY_pure (i := 10) 14 (v := .int .i64 (m p : Int)) rfl rfl (by kernel_rfl) (by kernel_rfl) (by kernel_rfl) (fun _ _ _ h => h) (Or.inl ⟨by rfl, by (intro W _; go_simp)⟩) ?_
      simp only [Act.put, List.setIfInBounds_toArray, List.set_cons_succ, List.set_cons_zero]
      refine wpAnyY_done (by kernel_rfl) ?_ _
      have H3 : Hid (Gt w w3 s i j S i (j - 1) (some ⟨lb, lo, none⟩) n ac l ∧ w3.heap[ax]? = some (.cells #[.int .i64 (p : Int), .int .i64 (bt : Int), .int .i64 (pf : Int), .int .i64 a3] 86 (0, 0))) := ⟨HA2.out.1.next hb3, by rw [hb3.block _ (lt_block HA2.out.2)]; exact HA2.out.2⟩
      clear hb3 HA2 HS HM
      have HBt : Hid ((bits .and .i64 ((m p : Int) / 2 ^ bt) 1 == 1) = (m p).testBit bt) := tst_one (HK.out p)
      have hmk : (m p : Int) < 65536 := by have := HK.out p; omega
      have hmk0 : 0 ≤ (m p : Int) := by omega
      clear HK
      generalize m p = mk at *
      have x0 := cell_block H3.out.2 0 _ rfl
      have x1 := cell_block H3.out.2 1 _ rfl
      have x2 := cell_block H3.out.2 2 _ rfl
      have x3 := cell_block H3.out.2 3 _ rfl
      have y0 := cell_block H3.out.1.bx p (.bool (s p)) (stC_get _ _ _ hp10)
      by_cases h1 : a3 = 3
      rotate_left
      · have e1 : (a3 == 3) = false := by simpa using h1
        have HE : Hid (goL m s 3 (l.take (k + 1)) = (S, ab)) := by show _ = _; rw [HTk.out, if_neg (fun z => h1 z.1)]
        clear HTk h1 HBt
        go_wp2
        go_roundg (gk - 1)
        case rel => exact ⟨k + 1, by omega, by go_num, by rw [HE.out], by rw [HE.out]; exact H3.out.1⟩
        case measure => omega
      subst h1
      cases hsp : s p with
      | false =>
        rw [hsp] at y0
        have HE : Hid (goL m s 3 (l.take (k + 1)) = (S, ab)) := by show _ = _; rw [HTk.out, if_neg (fun z => by rw [hsp] at z; cases z.2)]
        clear HTk hsp HBt
        go_wp2
        go_roundg (gk - 1)
        case rel => exact ⟨k + 1, by omega, by go_num, by rw [HE.out], by rw [HE.out]; exact H3.out.1⟩
        case measure => omega
      | true =>
        rw [hsp] at y0
        cases htb : mk.testBit bt with
        | false =>
          have e2 : (bits .and .i64 ((mk : Int) / 2 ^ bt) 1 == 1) = false := by rw [HBt.out, htb]
          have HE : Hid (goL m s 3 (l.take (k + 1)) = (S, ab)) := by show _ = _; rw [HTk.out, if_neg (fun z => by rw [hsp, htb] at z; cases z.2)]
          clear HTk hsp HBt htb
          go_wp2
          go_roundg (gk - 1)
          case rel => exact ⟨k + 1, by omega, by go_num, by rw [HE.out], by rw [HE.out]; exact H3.out.1⟩
          case measure => omega
        | true =>
          have e2 : (bits .and .i64 ((mk : Int) / 2 ^ bt) 1 == 1) = true := by rw [HBt.out, htb]
          have HE : Hid (goL m s 3 (l.take (k + 1)) = (putP S pf, true)) := by show _ = _; rw [HTk.out, if_pos ⟨rfl, by rw [hsp, htb]; rfl⟩]
          have H4 : Hid (Gt w (w3.setCell ⟨w.heap.size + 2, pf, none⟩ (.bool true)) s i j (putP S pf) i (j - 1) (some ⟨lb, lo, none⟩) n ac l) := H3.out.1.put hpf10
          have z0 := cell_block H3.out.1.tb pf (.bool (S pf)) (stC_get _ _ _ hpf10)
          have zf := frozen_of_row _ _ pf _ _ H3.out.1.tb
          clear HTk hsp HBt htb H3
          go_wp2
          go_roundg (gk - 1)
          case rel => exact ⟨k + 1, by omega, by go_num, by rw [HE.out], by rw [HE.out]; exact H4⟩
          case measure => omega

end Go.Proofs.Ytnkfibahkmmnpaa
