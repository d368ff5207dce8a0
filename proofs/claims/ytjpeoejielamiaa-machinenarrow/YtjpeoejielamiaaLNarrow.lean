/-
  Within a narrower band: the law.
-/
import Derived.Test.YtjpeoejielamiaaMlA
import Derived.Test.YtjpeoejielamiaaMpG
namespace Go.Proofs.Ytjpeoejielamiaa
open Go.RowKit

theorem ref_bad (c : Cd) (x y : List Int) (h : c.hi < c.lo) : refB (chkB c).2 c x y = 160 := by
  have hr : rightB c = false := by
    have : headB c = false := by
      unfold headB
      have hd : decide (c.lo ≤ c.hi) = false := by simpa using h
      rw [hd, Bool.and_false]
    unfold rightB
    rw [this]; rfl
  have : (chkB c).2 = 160 := by unfold chkB; rw [if_pos hr]
  rw [this]
  unfold refB
  rw [if_pos (by decide)]
theorem two_band (c : Cd) (lo hi : Int) : Two c { c with lo := lo, hi := hi } (fun a b => a = b) := ⟨rfl, rfl, rfl, rfl, rfl, al2_self (insR_self (fun _ => rfl) rfl) c.cell⟩
theorem goP_band (c : Cd) (lo hi : Int) : ∀ (l : List Qd) (S : St) (k : Nat), goP { c with lo := lo, hi := hi } S k l = goP c S k l
  | [], _, _ => rfl
  | q :: l, S, k => by
    unfold goP
    have e : errB { c with lo := lo, hi := hi } S q = errB c S q := rfl
    rw [e, goP_band c lo hi l]
theorem chk_band {c : Cd} (h : (chkB c).2 = 0) (lo hi : Int) (h1 : c.lo ≤ lo) (h2 : hi ≤ c.hi) (h3 : lo ≤ hi) (x y : List Int) : Gk { c with lo := lo, hi := hi } ∧ refB (chkB { c with lo := lo, hi := hi }).2 { c with lo := lo, hi := hi } x y = refB (chkB c).2 c x y := by
  have hg := gk_of h
  have hgo := goP_band c lo hi c.cell (st0 0) 0
  have hr : rightB c = true := by
    cases e : rightB c with
    | true => rfl
    | false => unfold chkB at h; rw [if_pos e] at h; exact absurd h (by decide)
  have hb := hg.band
  have hr2 : rightB { c with lo := lo, hi := hi } = true := by
    unfold rightB at hr ⊢
    simp only [Bool.and_eq_true] at hr ⊢
    refine ⟨⟨⟨?_, hr.1.1.2⟩, hr.1.2⟩, hr.2⟩
    have := hr.1.1.1
    unfold headB at this ⊢
    simp only [Bool.and_eq_true, decide_eq_true_eq, allB, List.all_eq_true, inB_iff, List.mem_cons, List.not_mem_nil, or_false, forall_eq_or_imp, forall_eq] at this ⊢
    exact ⟨⟨this.1.1, ⟨by omega, by omega⟩⟩, h3⟩
  have hc : (chkB { c with lo := lo, hi := hi }).2 = 0 := by
    unfold chkB
    rw [if_neg (by rw [hr2]; decide), if_neg (by show ¬ arsB c = false; rw [hg.ars]; decide)]
    simp only [hgo]
    rw [if_neg (by rw [hg.go]; decide), if_neg (by rw [hg.all]; decide), if_neg (by show ¬ widB c _ = true; rw [hg.wid]; decide)]
  refine ⟨gk_of hc, ?_⟩
  rw [hc, h]
  rfl
set_option maxRecDepth 20000 in
set_option maxHeartbeats 16000000 in
theorem narrow_walk (c : Cd) (s : Ls) (sx : Sl) (x : List Int) (sy : Sl) (y : List Int) (n bl bh : Int) (w : World) (hc : CdIn w c s) (hx : IntsAt w sx.a sx.n x ∧ SlIn sx) (hy : IntsAt w sy.a sy.n y ∧ SlIn sy) :
    Calls Try.prog 8 #[.agg (cdCells c s ++ #[.slice sx.a sx.n sx.c, .slice sy.a sy.n sy.c, .int .i64 n]), .int .i64 bl, .int .i64 bh] w fun e w' => e = .returned (.bool true) ∧ Below w.heap.size w w' := by
  have HC : Hid (CdAt w c s ∧ IntsAt w sx.a sx.n x ∧ IntsAt w sy.a sy.n y) := ⟨hc.at', hx.1, hy.1⟩
  clear hc hx hy
  obtain ⟨xa, xn, xc⟩ := sx
  obtain ⟨ya, yn, yc⟩ := sy
  rw [show cdCells c s ++ #[.slice xa xn xc, .slice ya yn yc, .int .i64 n] = #[.int .i64 c.letters, .int .i64 c.planes, .int .i64 c.regs, .int .i64 c.lo, .int .i64 c.hi, .int .i64 c.most, .slice s.t.a s.t.n s.t.c, .slice s.k.a s.k.n s.k.c, .slice s.i.a s.i.n s.i.c, .slice s.r.a s.r.n s.r.c, .slice xa xn xc, .slice ya yn yc, .int .i64 n] from rfl]
  have H0 : Hid (Bk w ((w.alloc (.cells #[.int .i64 c.letters, .int .i64 c.planes, .int .i64 c.regs, .int .i64 c.lo, .int .i64 c.hi, .int .i64 c.most, .slice s.t.a s.t.n s.t.c, .slice s.k.a s.k.n s.k.c, .slice s.i.a s.i.n s.i.c, .slice s.r.a s.r.n s.r.c, .slice xa xn xc, .slice ya yn yc, .int .i64 n] 62)).alloc (.cells #[.int .i64 c.letters, .int .i64 c.planes, .int .i64 c.regs, .int .i64 c.lo, .int .i64 c.hi, .int .i64 c.most, .slice s.t.a s.t.n s.t.c, .slice s.k.a s.k.n s.k.c, .slice s.i.a s.i.n s.i.c, .slice s.r.a s.r.n s.r.c] 26)) (w.heap.size + 1) #[.int .i64 c.letters, .int .i64 c.planes, .int .i64 c.regs, .int .i64 c.lo, .int .i64 c.hi, .int .i64 c.most, .slice s.t.a s.t.n s.t.c, .slice s.k.a s.k.n s.k.c, .slice s.i.a s.i.n s.i.c, .slice s.r.a s.r.n s.r.c]) := ⟨(below_new _).alloc (by simp) _, (new_two _ _ _).1⟩
  go_enter Try.func8, Try.ntmps8
  go_wp2_with fail
  refine (small_calls c s ⟨xa, xn, xc⟩ ⟨ya, yn, yc⟩ x y _ (HC.out.1.below H0.out.low) (HC.out.2.1.below H0.out.low) (HC.out.2.2.below H0.out.low)).mono ?_
  rintro e w1 ⟨⟨b, rfl, hsm⟩, hb1⟩
  have H1 : Hid (Bk w w1 (w.heap.size + 1) #[.int .i64 c.letters, .int .i64 c.planes, .int .i64 c.regs, .int .i64 c.lo, .int .i64 c.hi, .int .i64 c.most, .slice s.t.a s.t.n s.t.c, .slice s.k.a s.k.n s.k.c, .slice s.i.a s.i.n s.i.c, .slice s.r.a s.r.n s.r.c]) := H0.out.next hb1
  have HSm : Hid (b = true → s.t.n ≤ 2147483647 ∧ s.k.n ≤ 2147483647 ∧ s.i.n ≤ 2147483647 ∧ s.r.n ≤ 2147483647 ∧ xn ≤ 2147483647 ∧ yn ≤ 2147483647) := hsm
  clear hb1 H0 hsm
  cases b
  · go_wp2
    go_ret
    exact ⟨rfl, H1.out.low⟩
  go_wp2_with fail
  refine (awake_calls _).mono ?_
  rintro e w2 ⟨rfl, hb2⟩
  have H2 : Hid (Bk w w2 (w.heap.size + 1) #[.int .i64 c.letters, .int .i64 c.planes, .int .i64 c.regs, .int .i64 c.lo, .int .i64 c.hi, .int .i64 c.most, .slice s.t.a s.t.n s.t.c, .slice s.k.a s.k.n s.k.c, .slice s.i.a s.i.n s.i.c, .slice s.r.a s.r.n s.r.c]) := H1.out.next hb2
  clear hb2 H1
  have c0 := H2.out.cell 0 (.int .i64 c.letters) rfl
  have c1 := H2.out.cell 1 (.int .i64 c.planes) rfl
  have c2 := H2.out.cell 2 (.int .i64 c.regs) rfl
  have c3 := H2.out.cell 3 (.int .i64 c.lo) rfl
  have c4 := H2.out.cell 4 (.int .i64 c.hi) rfl
  have c5 := H2.out.cell 5 (.int .i64 c.most) rfl
  have c6 := H2.out.cell 6 (.slice s.t.a s.t.n s.t.c) rfl
  have c7 := H2.out.cell 7 (.slice s.k.a s.k.n s.k.c) rfl
  have c8 := H2.out.cell 8 (.slice s.i.a s.i.n s.i.c) rfl
  have c9 := H2.out.cell 9 (.slice s.r.a s.r.n s.r.c) rfl
  go_wp2_with fail
  refine (dcheck_calls c s _ (HC.out.1.below H2.out.low)).mono ?_
  rintro e w3 ⟨rfl, hb3⟩
  have H3 : Hid (Bk w w3 (w.heap.size + 1) #[.int .i64 c.letters, .int .i64 c.planes, .int .i64 c.regs, .int .i64 c.lo, .int .i64 c.hi, .int .i64 c.most, .slice s.t.a s.t.n s.t.c, .slice s.k.a s.k.n s.k.c, .slice s.i.a s.i.n s.i.c, .slice s.r.a s.r.n s.r.c]) := H2.out.next hb3
  clear hb3 H2
  clear c0 c1 c2 c3 c4 c5 c6 c7 c8 c9
  obtain ⟨er, her⟩ : ∃ er, (chkB c).2 = er := ⟨_, rfl⟩
  obtain ⟨at1, hat⟩ : ∃ a, (chkB c).1 = a := ⟨_, rfl⟩
  have HEr : Hid ((chkB c).2 = er) := her
  rw [her, hat]
  clear her hat
  have c0 := H3.out.cell 0 (.int .i64 c.letters) rfl
  have c1 := H3.out.cell 1 (.int .i64 c.planes) rfl
  have c2 := H3.out.cell 2 (.int .i64 c.regs) rfl
  have c3 := H3.out.cell 3 (.int .i64 c.lo) rfl
  have c4 := H3.out.cell 4 (.int .i64 c.hi) rfl
  have c5 := H3.out.cell 5 (.int .i64 c.most) rfl
  have c6 := H3.out.cell 6 (.slice s.t.a s.t.n s.t.c) rfl
  have c7 := H3.out.cell 7 (.slice s.k.a s.k.n s.k.c) rfl
  have c8 := H3.out.cell 8 (.slice s.i.a s.i.n s.i.c) rfl
  have c9 := H3.out.cell 9 (.slice s.r.a s.r.n s.r.c) rfl
  go_wp2_with fail
  refine (run_calls c s ⟨xa, xn, xc⟩ ⟨ya, yn, yc⟩ x y _ (HC.out.1.below H3.out.low) (HC.out.2.1.below H3.out.low) (HC.out.2.2.below H3.out.low)).mono ?_
  rintro e w4 ⟨hb4, r, rfl, hr1, hr0⟩
  have H4 : Hid (Bk w w4 (w.heap.size + 1) #[.int .i64 c.letters, .int .i64 c.planes, .int .i64 c.regs, .int .i64 c.lo, .int .i64 c.hi, .int .i64 c.most, .slice s.t.a s.t.n s.t.c, .slice s.k.a s.k.n s.k.c, .slice s.i.a s.i.n s.i.c, .slice s.r.a s.r.n s.r.c]) := H3.out.next hb4
  have HLe : Hid (w.heap.size ≤ w3.heap.size) := H3.out.low.size
  rw [HEr.out] at hr1 hr0 ⊢
  have HR1 : Hid (refB er c x y ≠ 0 → r = .pointer none) := hr1
  have HR0 : Hid (refB er c x y = 0 → ∃ g gs sa, r = .pointer (some ⟨g, 0, none⟩) ∧ (w3.heap.size ≤ g ∧ w3.heap.size ≤ gs) ∧ Tb w4 g gs c.planes.toNat x.length y.length sa (runM c x y).slots (runM c x y).ends (runM c x y).steps ∧
      w4.ownsRow w3.heap.size 41 4 (.slice sa.a sa.n sa.c) sa.n (qdVals c.arrows) ∧ sa.n = c.arrows.length) := hr0
  clear hb4 H3 hr1 hr0
  clear c0 c1 c2 c3 c4 c5 c6 c7 c8 c9
  obtain ⟨R, hR⟩ : ∃ R, refB er c x y = R := ⟨_, rfl⟩
  have HR : Hid (refB er c x y = R) := hR
  rw [hR] at HR1 HR0 ⊢
  clear hR

  clear HSm HLe
  have c0 := H4.out.cell 0 (.int .i64 c.letters) rfl
  have c1 := H4.out.cell 1 (.int .i64 c.planes) rfl
  have c2 := H4.out.cell 2 (.int .i64 c.regs) rfl
  have c3 := H4.out.cell 3 (.int .i64 c.lo) rfl
  have c4 := H4.out.cell 4 (.int .i64 c.hi) rfl
  have c5 := H4.out.cell 5 (.int .i64 c.most) rfl
  have c6 := H4.out.cell 6 (.slice s.t.a s.t.n s.t.c) rfl
  have c7 := H4.out.cell 7 (.slice s.k.a s.k.n s.k.c) rfl
  have c8 := H4.out.cell 8 (.slice s.i.a s.i.n s.i.c) rfl
  have c9 := H4.out.cell 9 (.slice s.r.a s.r.n s.r.c) rfl
  by_cases hlo : c.lo < bl
  · have hlod : decide (c.lo < bl) = true := by simpa using hlo
    by_cases hhi : bh < c.hi
    · have hhid : decide (bh < c.hi) = true := by simpa using hhi
      go_wp2_with fail
      have HD : Hid (Bk w (w4.alloc (.cells #[.int .i64 c.letters, .int .i64 c.planes, .int .i64 c.regs, .int .i64 bl, .int .i64 bh, .int .i64 c.most, .slice s.t.a s.t.n s.t.c, .slice s.k.a s.k.n s.k.c, .slice s.i.a s.i.n s.i.c, .slice s.r.a s.r.n s.r.c] 26)) w4.heap.size #[.int .i64 c.letters, .int .i64 c.planes, .int .i64 c.regs, .int .i64 bl, .int .i64 bh, .int .i64 c.most, .slice s.t.a s.t.n s.t.c, .slice s.k.a s.k.n s.k.c, .slice s.i.a s.i.n s.i.c, .slice s.r.a s.r.n s.r.c]) := ⟨H4.out.low.trans ((below_new _).mono H4.out.low.size), heap_alloc_new _ _⟩
      have HCD : Hid (∀ W, Below w.heap.size w W → CdAt W { c with lo := bl, hi := bh } s) := fun W hW => ⟨HC.out.1.table.below hW, HC.out.1.consts.below hW, HC.out.1.cell.below hW, HC.out.1.arrows.below hW⟩
      refine (run_calls { c with lo := bl, hi := bh } s ⟨xa, xn, xc⟩ ⟨ya, yn, yc⟩ x y _ (HCD.out _ HD.out.low) (HC.out.2.1.below HD.out.low) (HC.out.2.2.below HD.out.low)).mono ?_
      rintro e w5 ⟨hb5, r2, rfl, hr21, hr20⟩
      have H5 : Hid (Bk w w5 (w.heap.size + 1) #[.int .i64 c.letters, .int .i64 c.planes, .int .i64 c.regs, .int .i64 c.lo, .int .i64 c.hi, .int .i64 c.most, .slice s.t.a s.t.n s.t.c, .slice s.k.a s.k.n s.k.c, .slice s.i.a s.i.n s.i.c, .slice s.r.a s.r.n s.r.c] ∧ Bk w w5 w4.heap.size #[.int .i64 c.letters, .int .i64 c.planes, .int .i64 c.regs, .int .i64 bl, .int .i64 bh, .int .i64 c.most, .slice s.t.a s.t.n s.t.c, .slice s.k.a s.k.n s.k.c, .slice s.i.a s.i.n s.i.c, .slice s.r.a s.r.n s.r.c] ∧ Below w4.heap.size w4 w5) := ⟨(H4.out.next (below_new _)).next hb5, HD.out.next hb5, (below_new _).trans (hb5.mono (by simp))⟩
      have HR21 : Hid (refB (chkB { c with lo := bl, hi := bh }).2 { c with lo := bl, hi := bh } x y ≠ 0 → r2 = .pointer none) := hr21
      have HR20 : Hid (refB (chkB { c with lo := bl, hi := bh }).2 { c with lo := bl, hi := bh } x y = 0 → ∃ g gs sa, r2 = .pointer (some ⟨g, 0, none⟩) ∧ Tb w5 g gs c.planes.toNat x.length y.length sa (runM { c with lo := bl, hi := bh } x y).slots (runM { c with lo := bl, hi := bh } x y).ends (runM { c with lo := bl, hi := bh } x y).steps) := fun h => by
        obtain ⟨g, gs, sa, q1, _, q3, _⟩ := hr20 h
        exact ⟨g, gs, sa, q1, q3⟩
      clear hb5 hr21 hr20 HD c0 c1 c2 c3 c4 c5 c6 c7 c8 c9
      obtain ⟨bd, hbd⟩ : ∃ bd, w4.heap.size = bd := ⟨_, rfl⟩
      have HBd : Hid (w4.heap.size = bd) := hbd
      rw [hbd] at H5 ⊢
      clear hbd
      obtain ⟨R2, hR2⟩ : ∃ R2, refB (chkB { c with lo := bl, hi := bh }).2 { c with lo := bl, hi := bh } x y = R2 := ⟨_, rfl⟩
      have HR2 : Hid (refB (chkB { c with lo := bl, hi := bh }).2 { c with lo := bl, hi := bh } x y = R2) := hR2
      rw [hR2] at HR21 HR20 ⊢
      clear hR2
      have d3 := H5.out.2.1.cell 3 (.int .i64 bl) rfl
      have d4 := H5.out.2.1.cell 4 (.int .i64 bh) rfl
      by_cases h0 : er = 0
      rotate_left
      · have hd : (er != 0) = true := by simp [h0]
        have hRe : R = er := by rw [← HR.out]; unfold refB; rw [if_pos h0]
        subst hRe
        obtain rfl := HR1.out h0
        have hee : (R == R) = true := by simp
        clear h0
        go_wp2
        go_ret
        exact ⟨rfl, H5.out.1.low⟩
      have hd : (er != 0) = false := by simp [h0]
      have HG : Hid (Gk c) := gk_of (HEr.out.trans h0)
      have HCk : Hid ((chkB c).2 = 0) := HEr.out.trans h0
      by_cases hlh : bh < bl
      · have hlhd : decide (bh < bl) = true := by simpa using hlh
        have h160 : R2 = 160 := by rw [← HR2.out]; exact ref_bad _ _ _ hlh
        subst h160
        obtain rfl := HR21.out (by decide)
        clear hlh h0
        go_wp2
        go_ret
        exact ⟨rfl, H5.out.1.low⟩
      have hlhd : decide (bh < bl) = false := by simpa using hlh
      have HGd : Hid (Gk { c with lo := bl, hi := bh } ∧ refB (chkB { c with lo := bl, hi := bh }).2 { c with lo := bl, hi := bh } x y = refB (chkB c).2 c x y) := chk_band HCk.out _ _ (by omega) (by omega) (by omega) x y
      have hRR : R2 = R := by rw [← HR2.out, ← HR.out, HGd.out.2, HEr.out]
      subst hRR
      by_cases hR0 : R2 = 0
      rotate_left
      · obtain rfl := HR1.out hR0
        obtain rfl := HR21.out hR0
        have hrd : (R2 != 0) = true := by simp [hR0]
        have hrr : (R2 != R2) = false := by simp
        clear hlh h0 hR0
        go_wp2
        go_ret
        exact ⟨rfl, H5.out.1.low⟩
      obtain ⟨g, gs, sa, rfl, _, hT, _⟩ := HR0.out hR0
      obtain ⟨g2, gs2, sa2, rfl, hT2⟩ := HR20.out hR0
      have hrf := HR.out
      rw [hR0, ← HEr.out] at hrf
      have HOk : Hid ((x.length : Int) ≤ c.most ∧ (y.length : Int) ≤ c.most) := (ref_0 hrf).2.1
      subst hR0
      have HXY : Hid (x.length = xn ∧ y.length = yn) := ⟨HC.out.2.1.length, HC.out.2.2.length⟩
      obtain ⟨P, hP⟩ : ∃ P : Nat, c.planes = P := ⟨c.planes.toNat, by have := HG.out.rt.planes; omega⟩
      have HP : Hid (c.planes = P ∧ P ≤ 10 ∧ c.planes.toNat = P) := ⟨hP, by have := HG.out.rt.planes; omega, by omega⟩
      have HNr : Hid (∀ i j p : Nat, i ≤ xn → j ≤ yn → p < P → leC (atB P xn yn (runM c x y).slots p i j) (atB P xn yn (runM { c with lo := bl, hi := bh } x y).slots p i j) ∧ ((atB P xn yn (runM { c with lo := bl, hi := bh } x y).slots p i j).has = true → bl ≤ (j : Int) - i ∧ (j : Int) - i ≤ bh)) := fun i j p hi hj hp => by
        have hn := narrow HG.out HGd.out.1 (two_band c _ _) rfl (by show c.lo ≤ bl; omega) (by show bh ≤ c.hi; omega) x y HOk.out.1 HOk.out.2 (i + j) i j rfl (by rw [HXY.out.1]; exact hi) (by rw [HXY.out.2]; exact hj) p (by rw [HP.out.2.2]; exact hp)
        rw [HP.out.2.2, HXY.out.2] at hn
        simp only [atB_in hp hi hj]
        refine ⟨hn.1, fun hh => ?_⟩
        cases hb : inBd { c with lo := bl, hi := bh } i j with
        | false => rw [hn.2 hb] at hh; cases hh
        | true =>
          unfold inBd at hb
          simp only [Bool.and_eq_true, decide_eq_true_eq] at hb
          exact hb
      have hT5 := hT.next (by rw [HBd.out]; exact H5.out.2.2)
      rw [HP.out.2.2, HXY.out.1, HXY.out.2] at hT5 hT2
      have HK : Hid (Bk w w5 (w.heap.size + 1) #[.int .i64 c.letters, .int .i64 c.planes, .int .i64 c.regs, .int .i64 c.lo, .int .i64 c.hi, .int .i64 c.most, .slice s.t.a s.t.n s.t.c, .slice s.k.a s.k.n s.k.c, .slice s.i.a s.i.n s.i.c, .slice s.r.a s.r.n s.r.c] ∧ Bk w w5 bd #[.int .i64 c.letters, .int .i64 c.planes, .int .i64 c.regs, .int .i64 bl, .int .i64 bh, .int .i64 c.most, .slice s.t.a s.t.n s.t.c, .slice s.k.a s.k.n s.k.c, .slice s.i.a s.i.n s.i.c, .slice s.r.a s.r.n s.r.c] ∧ Tb w5 g gs P xn yn sa (runM c x y).slots (runM c x y).ends (runM c x y).steps ∧ Tb w5 g2 gs2 P xn yn sa2 (runM { c with lo := bl, hi := bh } x y).slots (runM { c with lo := bl, hi := bh } x y).ends (runM { c with lo := bl, hi := bh } x y).steps) := ⟨H5.out.1, H5.out.2.1, hT5, hT2⟩
      have hx20 : (xn : Int) ≤ 65536 := by have h1 := HOk.out.1; have h2 := HG.out.rt.most; have h3 := HXY.out.1; omega
      have hy20 : (yn : Int) ≤ 65536 := by have h1 := HOk.out.2; have h2 := HG.out.rt.most; have h3 := HXY.out.2; omega
      have hP10 : (P : Int) ≤ 10 := by have := HP.out.2.1; omega
      generalize runM c x y = M at *
      generalize runM { c with lo := bl, hi := bh } x y = M2 at *
      clear hP HR0 HR1 HR20 HR21 HR HR2 h0 hrf hT hT2 hT5 H5 HGd hlh HCD H4
      go_wp2
      clear d3 d4
      go_loopg [18] (xn + 1) (fun q iv wr => ∃ i : Nat, i + q = xn + 1 ∧ iv = .int .i64 i ∧ Hid (Bk w wr (w.heap.size + 1) #[.int .i64 c.letters, .int .i64 c.planes, .int .i64 c.regs, .int .i64 c.lo, .int .i64 c.hi, .int .i64 c.most, .slice s.t.a s.t.n s.t.c, .slice s.k.a s.k.n s.k.c, .slice s.i.a s.i.n s.i.c, .slice s.r.a s.r.n s.r.c] ∧ Bk w wr bd #[.int .i64 c.letters, .int .i64 c.planes, .int .i64 c.regs, .int .i64 bl, .int .i64 bh, .int .i64 c.most, .slice s.t.a s.t.n s.t.c, .slice s.k.a s.k.n s.k.c, .slice s.i.a s.i.n s.i.c, .slice s.r.a s.r.n s.r.c] ∧ Tb wr g gs P xn yn sa M.slots M.ends M.steps ∧ Tb wr g2 gs2 P xn yn sa2 M2.slots M2.ends M2.steps))
      case atStart => exact ⟨0, by omega, rfl, HK.out⟩
      case round =>
        clear HK
        obtain ⟨i, hiq, rfl, HK⟩ := hrel
        by_cases hi : i ≤ xn
        rotate_left
        · have hd : decide ((i : Int) ≤ (xn : Int)) = false := by simp; omega
          go_wp2
          go_ret
          exact ⟨rfl, HK.out.1.low⟩
        have hd : decide ((i : Int) ≤ (xn : Int)) = true := by simp; omega
        have hgk : 0 < gk := by omega
        obtain ⟨g1, rfl⟩ : ∃ g1, g1 = gk := ⟨_, rfl⟩
        go_wp2
        clear hd
        go_loopg [19] (yn + 1) (fun q jv wr => ∃ j : Nat, j + q = yn + 1 ∧ jv = .int .i64 j ∧ Hid (Bk w wr (w.heap.size + 1) #[.int .i64 c.letters, .int .i64 c.planes, .int .i64 c.regs, .int .i64 c.lo, .int .i64 c.hi, .int .i64 c.most, .slice s.t.a s.t.n s.t.c, .slice s.k.a s.k.n s.k.c, .slice s.i.a s.i.n s.i.c, .slice s.r.a s.r.n s.r.c] ∧ Bk w wr bd #[.int .i64 c.letters, .int .i64 c.planes, .int .i64 c.regs, .int .i64 bl, .int .i64 bh, .int .i64 c.most, .slice s.t.a s.t.n s.t.c, .slice s.k.a s.k.n s.k.c, .slice s.i.a s.i.n s.i.c, .slice s.r.a s.r.n s.r.c] ∧ Tb wr g gs P xn yn sa M.slots M.ends M.steps ∧ Tb wr g2 gs2 P xn yn sa2 M2.slots M2.ends M2.steps))
        case atStart => exact ⟨0, by omega, rfl, HK.out⟩
        case round =>
          clear HK
          obtain ⟨j, hjq, rfl, HK⟩ := hrel
          by_cases hj : j ≤ yn
          rotate_left
          · have hd : decide ((j : Int) ≤ (yn : Int)) = false := by simp; omega
            go_wp2
            go_roundg (g1 - 1)
            case rel => exact ⟨i + 1, by omega, by go_num, HK⟩
            case measure => omega
          have hd : decide ((j : Int) ≤ (yn : Int)) = true := by simp; omega
          have hgk2 : 0 < gk := by omega
          obtain ⟨g3, rfl⟩ : ∃ g3, g3 = gk := ⟨_, rfl⟩
          go_wp2
          clear hd
          go_loopg [20] P (fun q pv wr => ∃ p : Nat, p + q = P ∧ pv = .int .i64 p ∧ Hid (Bk w wr (w.heap.size + 1) #[.int .i64 c.letters, .int .i64 c.planes, .int .i64 c.regs, .int .i64 c.lo, .int .i64 c.hi, .int .i64 c.most, .slice s.t.a s.t.n s.t.c, .slice s.k.a s.k.n s.k.c, .slice s.i.a s.i.n s.i.c, .slice s.r.a s.r.n s.r.c] ∧ Bk w wr bd #[.int .i64 c.letters, .int .i64 c.planes, .int .i64 c.regs, .int .i64 bl, .int .i64 bh, .int .i64 c.most, .slice s.t.a s.t.n s.t.c, .slice s.k.a s.k.n s.k.c, .slice s.i.a s.i.n s.i.c, .slice s.r.a s.r.n s.r.c] ∧ Tb wr g gs P xn yn sa M.slots M.ends M.steps ∧ Tb wr g2 gs2 P xn yn sa2 M2.slots M2.ends M2.steps))
          case atStart => exact ⟨0, by omega, rfl, HK.out⟩
          case round =>
            clear HK
            obtain ⟨p, hpq, rfl, HK⟩ := hrel
            have c1 := HK.out.1.cell 1 (.int .i64 c.planes) rfl
            rw [HP.out.1] at c1
            by_cases hp : p < P
            rotate_left
            · have hd : decide ((p : Int) < (P : Int)) = false := by simp; omega
              go_wp2
              go_roundg (g3 - 1)
              case rel => exact ⟨j + 1, by omega, by go_num, HK⟩
              case measure => omega
            have hd : decide ((p : Int) < (P : Int)) = true := by simp; omega
            have HV := HNr.out i j p hi hj hp
            have HV2 : Hid (leC (atB P xn yn M.slots p i j) (atB P xn yn M2.slots p i j) ∧ ((atB P xn yn M2.slots p i j).has = true → bl ≤ (j : Int) - i ∧ (j : Int) - i ≤ bh)) := HV
            clear HV
            go_wp2_with fail
            refine (value_calls HK.out.2.2.1 p i j).mono ?_
            rintro e w7 ⟨rfl, hb7⟩
            have HK7 : Hid (Bk w w7 (w.heap.size + 1) #[.int .i64 c.letters, .int .i64 c.planes, .int .i64 c.regs, .int .i64 c.lo, .int .i64 c.hi, .int .i64 c.most, .slice s.t.a s.t.n s.t.c, .slice s.k.a s.k.n s.k.c, .slice s.i.a s.i.n s.i.c, .slice s.r.a s.r.n s.r.c] ∧ Bk w w7 bd #[.int .i64 c.letters, .int .i64 c.planes, .int .i64 c.regs, .int .i64 bl, .int .i64 bh, .int .i64 c.most, .slice s.t.a s.t.n s.t.c, .slice s.k.a s.k.n s.k.c, .slice s.i.a s.i.n s.i.c, .slice s.r.a s.r.n s.r.c] ∧ Tb w7 g gs P xn yn sa M.slots M.ends M.steps ∧ Tb w7 g2 gs2 P xn yn sa2 M2.slots M2.ends M2.steps) := ⟨HK.out.1.next hb7, HK.out.2.1.next hb7, HK.out.2.2.1.next hb7, HK.out.2.2.2.next hb7⟩
            clear hb7 HK c1
            go_wp2_with fail
            refine (value_calls HK7.out.2.2.2 p i j).mono ?_
            rintro e w8 ⟨rfl, hb8⟩
            have HK8 : Hid (Bk w w8 (w.heap.size + 1) #[.int .i64 c.letters, .int .i64 c.planes, .int .i64 c.regs, .int .i64 c.lo, .int .i64 c.hi, .int .i64 c.most, .slice s.t.a s.t.n s.t.c, .slice s.k.a s.k.n s.k.c, .slice s.i.a s.i.n s.i.c, .slice s.r.a s.r.n s.r.c] ∧ Bk w w8 bd #[.int .i64 c.letters, .int .i64 c.planes, .int .i64 c.regs, .int .i64 bl, .int .i64 bh, .int .i64 c.most, .slice s.t.a s.t.n s.t.c, .slice s.k.a s.k.n s.k.c, .slice s.i.a s.i.n s.i.c, .slice s.r.a s.r.n s.r.c] ∧ Tb w8 g gs P xn yn sa M.slots M.ends M.steps ∧ Tb w8 g2 gs2 P xn yn sa2 M2.slots M2.ends M2.steps) := ⟨HK7.out.1.next hb8, HK7.out.2.1.next hb8, HK7.out.2.2.1.next hb8, HK7.out.2.2.2.next hb8⟩
            clear hb8 HK7
            generalize atB P xn yn M.slots p i j = V at *
            generalize atB P xn yn M2.slots p i j = V2 at *
            obtain ⟨vh, vm, vn⟩ := V
            obtain ⟨vh2, vm2, vn2⟩ := V2
            cases vh2 with
            | false =>
              clear HV2
              go_wp2
              go_roundg (gk - 1)
              case rel => exact ⟨p + 1, by omega, by go_num, HK8⟩
              case measure => omega
            | true =>
              obtain ⟨q1, q2⟩ := HV2.out.1 rfl
              obtain ⟨q3, q4⟩ := HV2.out.2 rfl
              simp only at q1 q2
              subst q1
              clear HV2
              have k1 : decide (vn < vn2) = false := by simp <;> omega
              have k2 : decide ((j : Int) - (i : Int) < bl) = false := by simp; omega
              have k3 : decide (bh < (j : Int) - (i : Int)) = false := by simp; omega
              have d3 := HK8.out.2.1.cell 3 (.int .i64 bl) rfl
              have d4 := HK8.out.2.1.cell 4 (.int .i64 bh) rfl
              go_wp2
              go_roundg (gk - 1)
              case rel => exact ⟨p + 1, by omega, by go_num, HK8⟩
              case measure => omega
    · have hhid : decide (bh < c.hi) = false := by simpa using hhi
      go_wp2_with fail
      have HD : Hid (Bk w (w4.alloc (.cells #[.int .i64 c.letters, .int .i64 c.planes, .int .i64 c.regs, .int .i64 bl, .int .i64 c.hi, .int .i64 c.most, .slice s.t.a s.t.n s.t.c, .slice s.k.a s.k.n s.k.c, .slice s.i.a s.i.n s.i.c, .slice s.r.a s.r.n s.r.c] 26)) w4.heap.size #[.int .i64 c.letters, .int .i64 c.planes, .int .i64 c.regs, .int .i64 bl, .int .i64 c.hi, .int .i64 c.most, .slice s.t.a s.t.n s.t.c, .slice s.k.a s.k.n s.k.c, .slice s.i.a s.i.n s.i.c, .slice s.r.a s.r.n s.r.c]) := ⟨H4.out.low.trans ((below_new _).mono H4.out.low.size), heap_alloc_new _ _⟩
      have HCD : Hid (∀ W, Below w.heap.size w W → CdAt W { c with lo := bl, hi := c.hi } s) := fun W hW => ⟨HC.out.1.table.below hW, HC.out.1.consts.below hW, HC.out.1.cell.below hW, HC.out.1.arrows.below hW⟩
      refine (run_calls { c with lo := bl, hi := c.hi } s ⟨xa, xn, xc⟩ ⟨ya, yn, yc⟩ x y _ (HCD.out _ HD.out.low) (HC.out.2.1.below HD.out.low) (HC.out.2.2.below HD.out.low)).mono ?_
      rintro e w5 ⟨hb5, r2, rfl, hr21, hr20⟩
      have H5 : Hid (Bk w w5 (w.heap.size + 1) #[.int .i64 c.letters, .int .i64 c.planes, .int .i64 c.regs, .int .i64 c.lo, .int .i64 c.hi, .int .i64 c.most, .slice s.t.a s.t.n s.t.c, .slice s.k.a s.k.n s.k.c, .slice s.i.a s.i.n s.i.c, .slice s.r.a s.r.n s.r.c] ∧ Bk w w5 w4.heap.size #[.int .i64 c.letters, .int .i64 c.planes, .int .i64 c.regs, .int .i64 bl, .int .i64 c.hi, .int .i64 c.most, .slice s.t.a s.t.n s.t.c, .slice s.k.a s.k.n s.k.c, .slice s.i.a s.i.n s.i.c, .slice s.r.a s.r.n s.r.c] ∧ Below w4.heap.size w4 w5) := ⟨(H4.out.next (below_new _)).next hb5, HD.out.next hb5, (below_new _).trans (hb5.mono (by simp))⟩
      have HR21 : Hid (refB (chkB { c with lo := bl, hi := c.hi }).2 { c with lo := bl, hi := c.hi } x y ≠ 0 → r2 = .pointer none) := hr21
      have HR20 : Hid (refB (chkB { c with lo := bl, hi := c.hi }).2 { c with lo := bl, hi := c.hi } x y = 0 → ∃ g gs sa, r2 = .pointer (some ⟨g, 0, none⟩) ∧ Tb w5 g gs c.planes.toNat x.length y.length sa (runM { c with lo := bl, hi := c.hi } x y).slots (runM { c with lo := bl, hi := c.hi } x y).ends (runM { c with lo := bl, hi := c.hi } x y).steps) := fun h => by
        obtain ⟨g, gs, sa, q1, _, q3, _⟩ := hr20 h
        exact ⟨g, gs, sa, q1, q3⟩
      clear hb5 hr21 hr20 HD c0 c1 c2 c3 c4 c5 c6 c7 c8 c9
      obtain ⟨bd, hbd⟩ : ∃ bd, w4.heap.size = bd := ⟨_, rfl⟩
      have HBd : Hid (w4.heap.size = bd) := hbd
      rw [hbd] at H5 ⊢
      clear hbd
      obtain ⟨R2, hR2⟩ : ∃ R2, refB (chkB { c with lo := bl, hi := c.hi }).2 { c with lo := bl, hi := c.hi } x y = R2 := ⟨_, rfl⟩
      have HR2 : Hid (refB (chkB { c with lo := bl, hi := c.hi }).2 { c with lo := bl, hi := c.hi } x y = R2) := hR2
      rw [hR2] at HR21 HR20 ⊢
      clear hR2
      have d3 := H5.out.2.1.cell 3 (.int .i64 bl) rfl
      have d4 := H5.out.2.1.cell 4 (.int .i64 c.hi) rfl
      by_cases h0 : er = 0
      rotate_left
      · have hd : (er != 0) = true := by simp [h0]
        have hRe : R = er := by rw [← HR.out]; unfold refB; rw [if_pos h0]
        subst hRe
        obtain rfl := HR1.out h0
        have hee : (R == R) = true := by simp
        clear h0
        go_wp2
        go_ret
        exact ⟨rfl, H5.out.1.low⟩
      have hd : (er != 0) = false := by simp [h0]
      have HG : Hid (Gk c) := gk_of (HEr.out.trans h0)
      have HCk : Hid ((chkB c).2 = 0) := HEr.out.trans h0
      by_cases hlh : c.hi < bl
      · have hlhd : decide (c.hi < bl) = true := by simpa using hlh
        have h160 : R2 = 160 := by rw [← HR2.out]; exact ref_bad _ _ _ hlh
        subst h160
        obtain rfl := HR21.out (by decide)
        clear hlh h0
        go_wp2
        go_ret
        exact ⟨rfl, H5.out.1.low⟩
      have hlhd : decide (c.hi < bl) = false := by simpa using hlh
      have HGd : Hid (Gk { c with lo := bl, hi := c.hi } ∧ refB (chkB { c with lo := bl, hi := c.hi }).2 { c with lo := bl, hi := c.hi } x y = refB (chkB c).2 c x y) := chk_band HCk.out _ _ (by omega) (by omega) (by omega) x y
      have hRR : R2 = R := by rw [← HR2.out, ← HR.out, HGd.out.2, HEr.out]
      subst hRR
      by_cases hR0 : R2 = 0
      rotate_left
      · obtain rfl := HR1.out hR0
        obtain rfl := HR21.out hR0
        have hrd : (R2 != 0) = true := by simp [hR0]
        have hrr : (R2 != R2) = false := by simp
        clear hlh h0 hR0
        go_wp2
        go_ret
        exact ⟨rfl, H5.out.1.low⟩
      obtain ⟨g, gs, sa, rfl, _, hT, _⟩ := HR0.out hR0
      obtain ⟨g2, gs2, sa2, rfl, hT2⟩ := HR20.out hR0
      have hrf := HR.out
      rw [hR0, ← HEr.out] at hrf
      have HOk : Hid ((x.length : Int) ≤ c.most ∧ (y.length : Int) ≤ c.most) := (ref_0 hrf).2.1
      subst hR0
      have HXY : Hid (x.length = xn ∧ y.length = yn) := ⟨HC.out.2.1.length, HC.out.2.2.length⟩
      obtain ⟨P, hP⟩ : ∃ P : Nat, c.planes = P := ⟨c.planes.toNat, by have := HG.out.rt.planes; omega⟩
      have HP : Hid (c.planes = P ∧ P ≤ 10 ∧ c.planes.toNat = P) := ⟨hP, by have := HG.out.rt.planes; omega, by omega⟩
      have HNr : Hid (∀ i j p : Nat, i ≤ xn → j ≤ yn → p < P → leC (atB P xn yn (runM c x y).slots p i j) (atB P xn yn (runM { c with lo := bl, hi := c.hi } x y).slots p i j) ∧ ((atB P xn yn (runM { c with lo := bl, hi := c.hi } x y).slots p i j).has = true → bl ≤ (j : Int) - i ∧ (j : Int) - i ≤ c.hi)) := fun i j p hi hj hp => by
        have hn := narrow HG.out HGd.out.1 (two_band c _ _) rfl (by show c.lo ≤ bl; omega) (by show c.hi ≤ c.hi; omega) x y HOk.out.1 HOk.out.2 (i + j) i j rfl (by rw [HXY.out.1]; exact hi) (by rw [HXY.out.2]; exact hj) p (by rw [HP.out.2.2]; exact hp)
        rw [HP.out.2.2, HXY.out.2] at hn
        simp only [atB_in hp hi hj]
        refine ⟨hn.1, fun hh => ?_⟩
        cases hb : inBd { c with lo := bl, hi := c.hi } i j with
        | false => rw [hn.2 hb] at hh; cases hh
        | true =>
          unfold inBd at hb
          simp only [Bool.and_eq_true, decide_eq_true_eq] at hb
          exact hb
      have hT5 := hT.next (by rw [HBd.out]; exact H5.out.2.2)
      rw [HP.out.2.2, HXY.out.1, HXY.out.2] at hT5 hT2
      have HK : Hid (Bk w w5 (w.heap.size + 1) #[.int .i64 c.letters, .int .i64 c.planes, .int .i64 c.regs, .int .i64 c.lo, .int .i64 c.hi, .int .i64 c.most, .slice s.t.a s.t.n s.t.c, .slice s.k.a s.k.n s.k.c, .slice s.i.a s.i.n s.i.c, .slice s.r.a s.r.n s.r.c] ∧ Bk w w5 bd #[.int .i64 c.letters, .int .i64 c.planes, .int .i64 c.regs, .int .i64 bl, .int .i64 c.hi, .int .i64 c.most, .slice s.t.a s.t.n s.t.c, .slice s.k.a s.k.n s.k.c, .slice s.i.a s.i.n s.i.c, .slice s.r.a s.r.n s.r.c] ∧ Tb w5 g gs P xn yn sa (runM c x y).slots (runM c x y).ends (runM c x y).steps ∧ Tb w5 g2 gs2 P xn yn sa2 (runM { c with lo := bl, hi := c.hi } x y).slots (runM { c with lo := bl, hi := c.hi } x y).ends (runM { c with lo := bl, hi := c.hi } x y).steps) := ⟨H5.out.1, H5.out.2.1, hT5, hT2⟩
      have hx20 : (xn : Int) ≤ 65536 := by have h1 := HOk.out.1; have h2 := HG.out.rt.most; have h3 := HXY.out.1; omega
      have hy20 : (yn : Int) ≤ 65536 := by have h1 := HOk.out.2; have h2 := HG.out.rt.most; have h3 := HXY.out.2; omega
      have hP10 : (P : Int) ≤ 10 := by have := HP.out.2.1; omega
      generalize runM c x y = M at *
      generalize runM { c with lo := bl, hi := c.hi } x y = M2 at *
      clear hP HR0 HR1 HR20 HR21 HR HR2 h0 hrf hT hT2 hT5 H5 HGd hlh HCD H4
      go_wp2
      clear d3 d4
      go_loopg [18] (xn + 1) (fun q iv wr => ∃ i : Nat, i + q = xn + 1 ∧ iv = .int .i64 i ∧ Hid (Bk w wr (w.heap.size + 1) #[.int .i64 c.letters, .int .i64 c.planes, .int .i64 c.regs, .int .i64 c.lo, .int .i64 c.hi, .int .i64 c.most, .slice s.t.a s.t.n s.t.c, .slice s.k.a s.k.n s.k.c, .slice s.i.a s.i.n s.i.c, .slice s.r.a s.r.n s.r.c] ∧ Bk w wr bd #[.int .i64 c.letters, .int .i64 c.planes, .int .i64 c.regs, .int .i64 bl, .int .i64 c.hi, .int .i64 c.most, .slice s.t.a s.t.n s.t.c, .slice s.k.a s.k.n s.k.c, .slice s.i.a s.i.n s.i.c, .slice s.r.a s.r.n s.r.c] ∧ Tb wr g gs P xn yn sa M.slots M.ends M.steps ∧ Tb wr g2 gs2 P xn yn sa2 M2.slots M2.ends M2.steps))
      case atStart => exact ⟨0, by omega, rfl, HK.out⟩
      case round =>
        clear HK
        obtain ⟨i, hiq, rfl, HK⟩ := hrel
        by_cases hi : i ≤ xn
        rotate_left
        · have hd : decide ((i : Int) ≤ (xn : Int)) = false := by simp; omega
          go_wp2
          go_ret
          exact ⟨rfl, HK.out.1.low⟩
        have hd : decide ((i : Int) ≤ (xn : Int)) = true := by simp; omega
        have hgk : 0 < gk := by omega
        obtain ⟨g1, rfl⟩ : ∃ g1, g1 = gk := ⟨_, rfl⟩
        go_wp2
        clear hd
        go_loopg [19] (yn + 1) (fun q jv wr => ∃ j : Nat, j + q = yn + 1 ∧ jv = .int .i64 j ∧ Hid (Bk w wr (w.heap.size + 1) #[.int .i64 c.letters, .int .i64 c.planes, .int .i64 c.regs, .int .i64 c.lo, .int .i64 c.hi, .int .i64 c.most, .slice s.t.a s.t.n s.t.c, .slice s.k.a s.k.n s.k.c, .slice s.i.a s.i.n s.i.c, .slice s.r.a s.r.n s.r.c] ∧ Bk w wr bd #[.int .i64 c.letters, .int .i64 c.planes, .int .i64 c.regs, .int .i64 bl, .int .i64 c.hi, .int .i64 c.most, .slice s.t.a s.t.n s.t.c, .slice s.k.a s.k.n s.k.c, .slice s.i.a s.i.n s.i.c, .slice s.r.a s.r.n s.r.c] ∧ Tb wr g gs P xn yn sa M.slots M.ends M.steps ∧ Tb wr g2 gs2 P xn yn sa2 M2.slots M2.ends M2.steps))
        case atStart => exact ⟨0, by omega, rfl, HK.out⟩
        case round =>
          clear HK
          obtain ⟨j, hjq, rfl, HK⟩ := hrel
          by_cases hj : j ≤ yn
          rotate_left
          · have hd : decide ((j : Int) ≤ (yn : Int)) = false := by simp; omega
            go_wp2
            go_roundg (g1 - 1)
            case rel => exact ⟨i + 1, by omega, by go_num, HK⟩
            case measure => omega
          have hd : decide ((j : Int) ≤ (yn : Int)) = true := by simp; omega
          have hgk2 : 0 < gk := by omega
          obtain ⟨g3, rfl⟩ : ∃ g3, g3 = gk := ⟨_, rfl⟩
          go_wp2
          clear hd
          go_loopg [20] P (fun q pv wr => ∃ p : Nat, p + q = P ∧ pv = .int .i64 p ∧ Hid (Bk w wr (w.heap.size + 1) #[.int .i64 c.letters, .int .i64 c.planes, .int .i64 c.regs, .int .i64 c.lo, .int .i64 c.hi, .int .i64 c.most, .slice s.t.a s.t.n s.t.c, .slice s.k.a s.k.n s.k.c, .slice s.i.a s.i.n s.i.c, .slice s.r.a s.r.n s.r.c] ∧ Bk w wr bd #[.int .i64 c.letters, .int .i64 c.planes, .int .i64 c.regs, .int .i64 bl, .int .i64 c.hi, .int .i64 c.most, .slice s.t.a s.t.n s.t.c, .slice s.k.a s.k.n s.k.c, .slice s.i.a s.i.n s.i.c, .slice s.r.a s.r.n s.r.c] ∧ Tb wr g gs P xn yn sa M.slots M.ends M.steps ∧ Tb wr g2 gs2 P xn yn sa2 M2.slots M2.ends M2.steps))
          case atStart => exact ⟨0, by omega, rfl, HK.out⟩
          case round =>
            clear HK
            obtain ⟨p, hpq, rfl, HK⟩ := hrel
            have c1 := HK.out.1.cell 1 (.int .i64 c.planes) rfl
            rw [HP.out.1] at c1
            by_cases hp : p < P
            rotate_left
            · have hd : decide ((p : Int) < (P : Int)) = false := by simp; omega
              go_wp2
              go_roundg (g3 - 1)
              case rel => exact ⟨j + 1, by omega, by go_num, HK⟩
              case measure => omega
            have hd : decide ((p : Int) < (P : Int)) = true := by simp; omega
            have HV := HNr.out i j p hi hj hp
            have HV2 : Hid (leC (atB P xn yn M.slots p i j) (atB P xn yn M2.slots p i j) ∧ ((atB P xn yn M2.slots p i j).has = true → bl ≤ (j : Int) - i ∧ (j : Int) - i ≤ c.hi)) := HV
            clear HV
            go_wp2_with fail
            refine (value_calls HK.out.2.2.1 p i j).mono ?_
            rintro e w7 ⟨rfl, hb7⟩
            have HK7 : Hid (Bk w w7 (w.heap.size + 1) #[.int .i64 c.letters, .int .i64 c.planes, .int .i64 c.regs, .int .i64 c.lo, .int .i64 c.hi, .int .i64 c.most, .slice s.t.a s.t.n s.t.c, .slice s.k.a s.k.n s.k.c, .slice s.i.a s.i.n s.i.c, .slice s.r.a s.r.n s.r.c] ∧ Bk w w7 bd #[.int .i64 c.letters, .int .i64 c.planes, .int .i64 c.regs, .int .i64 bl, .int .i64 c.hi, .int .i64 c.most, .slice s.t.a s.t.n s.t.c, .slice s.k.a s.k.n s.k.c, .slice s.i.a s.i.n s.i.c, .slice s.r.a s.r.n s.r.c] ∧ Tb w7 g gs P xn yn sa M.slots M.ends M.steps ∧ Tb w7 g2 gs2 P xn yn sa2 M2.slots M2.ends M2.steps) := ⟨HK.out.1.next hb7, HK.out.2.1.next hb7, HK.out.2.2.1.next hb7, HK.out.2.2.2.next hb7⟩
            clear hb7 HK c1
            go_wp2_with fail
            refine (value_calls HK7.out.2.2.2 p i j).mono ?_
            rintro e w8 ⟨rfl, hb8⟩
            have HK8 : Hid (Bk w w8 (w.heap.size + 1) #[.int .i64 c.letters, .int .i64 c.planes, .int .i64 c.regs, .int .i64 c.lo, .int .i64 c.hi, .int .i64 c.most, .slice s.t.a s.t.n s.t.c, .slice s.k.a s.k.n s.k.c, .slice s.i.a s.i.n s.i.c, .slice s.r.a s.r.n s.r.c] ∧ Bk w w8 bd #[.int .i64 c.letters, .int .i64 c.planes, .int .i64 c.regs, .int .i64 bl, .int .i64 c.hi, .int .i64 c.most, .slice s.t.a s.t.n s.t.c, .slice s.k.a s.k.n s.k.c, .slice s.i.a s.i.n s.i.c, .slice s.r.a s.r.n s.r.c] ∧ Tb w8 g gs P xn yn sa M.slots M.ends M.steps ∧ Tb w8 g2 gs2 P xn yn sa2 M2.slots M2.ends M2.steps) := ⟨HK7.out.1.next hb8, HK7.out.2.1.next hb8, HK7.out.2.2.1.next hb8, HK7.out.2.2.2.next hb8⟩
            clear hb8 HK7
            generalize atB P xn yn M.slots p i j = V at *
            generalize atB P xn yn M2.slots p i j = V2 at *
            obtain ⟨vh, vm, vn⟩ := V
            obtain ⟨vh2, vm2, vn2⟩ := V2
            cases vh2 with
            | false =>
              clear HV2
              go_wp2
              go_roundg (gk - 1)
              case rel => exact ⟨p + 1, by omega, by go_num, HK8⟩
              case measure => omega
            | true =>
              obtain ⟨q1, q2⟩ := HV2.out.1 rfl
              obtain ⟨q3, q4⟩ := HV2.out.2 rfl
              simp only at q1 q2
              subst q1
              clear HV2
              have k1 : decide (vn < vn2) = false := by simp <;> omega
              have k2 : decide ((j : Int) - (i : Int) < bl) = false := by simp; omega
              have k3 : decide (c.hi < (j : Int) - (i : Int)) = false := by simp; omega
              have d3 := HK8.out.2.1.cell 3 (.int .i64 bl) rfl
              have d4 := HK8.out.2.1.cell 4 (.int .i64 c.hi) rfl
              go_wp2
              go_roundg (gk - 1)
              case rel => exact ⟨p + 1, by omega, by go_num, HK8⟩
              case measure => omega
  · have hlod : decide (c.lo < bl) = false := by simpa using hlo
    by_cases hhi : bh < c.hi
    · have hhid : decide (bh < c.hi) = true := by simpa using hhi
      go_wp2_with fail
      have HD : Hid (Bk w (w4.alloc (.cells #[.int .i64 c.letters, .int .i64 c.planes, .int .i64 c.regs, .int .i64 c.lo, .int .i64 bh, .int .i64 c.most, .slice s.t.a s.t.n s.t.c, .slice s.k.a s.k.n s.k.c, .slice s.i.a s.i.n s.i.c, .slice s.r.a s.r.n s.r.c] 26)) w4.heap.size #[.int .i64 c.letters, .int .i64 c.planes, .int .i64 c.regs, .int .i64 c.lo, .int .i64 bh, .int .i64 c.most, .slice s.t.a s.t.n s.t.c, .slice s.k.a s.k.n s.k.c, .slice s.i.a s.i.n s.i.c, .slice s.r.a s.r.n s.r.c]) := ⟨H4.out.low.trans ((below_new _).mono H4.out.low.size), heap_alloc_new _ _⟩
      have HCD : Hid (∀ W, Below w.heap.size w W → CdAt W { c with lo := c.lo, hi := bh } s) := fun W hW => ⟨HC.out.1.table.below hW, HC.out.1.consts.below hW, HC.out.1.cell.below hW, HC.out.1.arrows.below hW⟩
      refine (run_calls { c with lo := c.lo, hi := bh } s ⟨xa, xn, xc⟩ ⟨ya, yn, yc⟩ x y _ (HCD.out _ HD.out.low) (HC.out.2.1.below HD.out.low) (HC.out.2.2.below HD.out.low)).mono ?_
      rintro e w5 ⟨hb5, r2, rfl, hr21, hr20⟩
      have H5 : Hid (Bk w w5 (w.heap.size + 1) #[.int .i64 c.letters, .int .i64 c.planes, .int .i64 c.regs, .int .i64 c.lo, .int .i64 c.hi, .int .i64 c.most, .slice s.t.a s.t.n s.t.c, .slice s.k.a s.k.n s.k.c, .slice s.i.a s.i.n s.i.c, .slice s.r.a s.r.n s.r.c] ∧ Bk w w5 w4.heap.size #[.int .i64 c.letters, .int .i64 c.planes, .int .i64 c.regs, .int .i64 c.lo, .int .i64 bh, .int .i64 c.most, .slice s.t.a s.t.n s.t.c, .slice s.k.a s.k.n s.k.c, .slice s.i.a s.i.n s.i.c, .slice s.r.a s.r.n s.r.c] ∧ Below w4.heap.size w4 w5) := ⟨(H4.out.next (below_new _)).next hb5, HD.out.next hb5, (below_new _).trans (hb5.mono (by simp))⟩
      have HR21 : Hid (refB (chkB { c with lo := c.lo, hi := bh }).2 { c with lo := c.lo, hi := bh } x y ≠ 0 → r2 = .pointer none) := hr21
      have HR20 : Hid (refB (chkB { c with lo := c.lo, hi := bh }).2 { c with lo := c.lo, hi := bh } x y = 0 → ∃ g gs sa, r2 = .pointer (some ⟨g, 0, none⟩) ∧ Tb w5 g gs c.planes.toNat x.length y.length sa (runM { c with lo := c.lo, hi := bh } x y).slots (runM { c with lo := c.lo, hi := bh } x y).ends (runM { c with lo := c.lo, hi := bh } x y).steps) := fun h => by
        obtain ⟨g, gs, sa, q1, _, q3, _⟩ := hr20 h
        exact ⟨g, gs, sa, q1, q3⟩
      clear hb5 hr21 hr20 HD c0 c1 c2 c3 c4 c5 c6 c7 c8 c9
      obtain ⟨bd, hbd⟩ : ∃ bd, w4.heap.size = bd := ⟨_, rfl⟩
      have HBd : Hid (w4.heap.size = bd) := hbd
      rw [hbd] at H5 ⊢
      clear hbd
      obtain ⟨R2, hR2⟩ : ∃ R2, refB (chkB { c with lo := c.lo, hi := bh }).2 { c with lo := c.lo, hi := bh } x y = R2 := ⟨_, rfl⟩
      have HR2 : Hid (refB (chkB { c with lo := c.lo, hi := bh }).2 { c with lo := c.lo, hi := bh } x y = R2) := hR2
      rw [hR2] at HR21 HR20 ⊢
      clear hR2
      have d3 := H5.out.2.1.cell 3 (.int .i64 c.lo) rfl
      have d4 := H5.out.2.1.cell 4 (.int .i64 bh) rfl
      by_cases h0 : er = 0
      rotate_left
      · have hd : (er != 0) = true := by simp [h0]
        have hRe : R = er := by rw [← HR.out]; unfold refB; rw [if_pos h0]
        subst hRe
        obtain rfl := HR1.out h0
        have hee : (R == R) = true := by simp
        clear h0
        go_wp2
        go_ret
        exact ⟨rfl, H5.out.1.low⟩
      have hd : (er != 0) = false := by simp [h0]
      have HG : Hid (Gk c) := gk_of (HEr.out.trans h0)
      have HCk : Hid ((chkB c).2 = 0) := HEr.out.trans h0
      by_cases hlh : bh < c.lo
      · have hlhd : decide (bh < c.lo) = true := by simpa using hlh
        have h160 : R2 = 160 := by rw [← HR2.out]; exact ref_bad _ _ _ hlh
        subst h160
        obtain rfl := HR21.out (by decide)
        clear hlh h0
        go_wp2
        go_ret
        exact ⟨rfl, H5.out.1.low⟩
      have hlhd : decide (bh < c.lo) = false := by simpa using hlh
      have HGd : Hid (Gk { c with lo := c.lo, hi := bh } ∧ refB (chkB { c with lo := c.lo, hi := bh }).2 { c with lo := c.lo, hi := bh } x y = refB (chkB c).2 c x y) := chk_band HCk.out _ _ (by omega) (by omega) (by omega) x y
      have hRR : R2 = R := by rw [← HR2.out, ← HR.out, HGd.out.2, HEr.out]
      subst hRR
      by_cases hR0 : R2 = 0
      rotate_left
      · obtain rfl := HR1.out hR0
        obtain rfl := HR21.out hR0
        have hrd : (R2 != 0) = true := by simp [hR0]
        have hrr : (R2 != R2) = false := by simp
        clear hlh h0 hR0
        go_wp2
        go_ret
        exact ⟨rfl, H5.out.1.low⟩
      obtain ⟨g, gs, sa, rfl, _, hT, _⟩ := HR0.out hR0
      obtain ⟨g2, gs2, sa2, rfl, hT2⟩ := HR20.out hR0
      have hrf := HR.out
      rw [hR0, ← HEr.out] at hrf
      have HOk : Hid ((x.length : Int) ≤ c.most ∧ (y.length : Int) ≤ c.most) := (ref_0 hrf).2.1
      subst hR0
      have HXY : Hid (x.length = xn ∧ y.length = yn) := ⟨HC.out.2.1.length, HC.out.2.2.length⟩
      obtain ⟨P, hP⟩ : ∃ P : Nat, c.planes = P := ⟨c.planes.toNat, by have := HG.out.rt.planes; omega⟩
      have HP : Hid (c.planes = P ∧ P ≤ 10 ∧ c.planes.toNat = P) := ⟨hP, by have := HG.out.rt.planes; omega, by omega⟩
      have HNr : Hid (∀ i j p : Nat, i ≤ xn → j ≤ yn → p < P → leC (atB P xn yn (runM c x y).slots p i j) (atB P xn yn (runM { c with lo := c.lo, hi := bh } x y).slots p i j) ∧ ((atB P xn yn (runM { c with lo := c.lo, hi := bh } x y).slots p i j).has = true → c.lo ≤ (j : Int) - i ∧ (j : Int) - i ≤ bh)) := fun i j p hi hj hp => by
        have hn := narrow HG.out HGd.out.1 (two_band c _ _) rfl (by show c.lo ≤ c.lo; omega) (by show bh ≤ c.hi; omega) x y HOk.out.1 HOk.out.2 (i + j) i j rfl (by rw [HXY.out.1]; exact hi) (by rw [HXY.out.2]; exact hj) p (by rw [HP.out.2.2]; exact hp)
        rw [HP.out.2.2, HXY.out.2] at hn
        simp only [atB_in hp hi hj]
        refine ⟨hn.1, fun hh => ?_⟩
        cases hb : inBd { c with lo := c.lo, hi := bh } i j with
        | false => rw [hn.2 hb] at hh; cases hh
        | true =>
          unfold inBd at hb
          simp only [Bool.and_eq_true, decide_eq_true_eq] at hb
          exact hb
      have hT5 := hT.next (by rw [HBd.out]; exact H5.out.2.2)
      rw [HP.out.2.2, HXY.out.1, HXY.out.2] at hT5 hT2
      have HK : Hid (Bk w w5 (w.heap.size + 1) #[.int .i64 c.letters, .int .i64 c.planes, .int .i64 c.regs, .int .i64 c.lo, .int .i64 c.hi, .int .i64 c.most, .slice s.t.a s.t.n s.t.c, .slice s.k.a s.k.n s.k.c, .slice s.i.a s.i.n s.i.c, .slice s.r.a s.r.n s.r.c] ∧ Bk w w5 bd #[.int .i64 c.letters, .int .i64 c.planes, .int .i64 c.regs, .int .i64 c.lo, .int .i64 bh, .int .i64 c.most, .slice s.t.a s.t.n s.t.c, .slice s.k.a s.k.n s.k.c, .slice s.i.a s.i.n s.i.c, .slice s.r.a s.r.n s.r.c] ∧ Tb w5 g gs P xn yn sa (runM c x y).slots (runM c x y).ends (runM c x y).steps ∧ Tb w5 g2 gs2 P xn yn sa2 (runM { c with lo := c.lo, hi := bh } x y).slots (runM { c with lo := c.lo, hi := bh } x y).ends (runM { c with lo := c.lo, hi := bh } x y).steps) := ⟨H5.out.1, H5.out.2.1, hT5, hT2⟩
      have hx20 : (xn : Int) ≤ 65536 := by have h1 := HOk.out.1; have h2 := HG.out.rt.most; have h3 := HXY.out.1; omega
      have hy20 : (yn : Int) ≤ 65536 := by have h1 := HOk.out.2; have h2 := HG.out.rt.most; have h3 := HXY.out.2; omega
      have hP10 : (P : Int) ≤ 10 := by have := HP.out.2.1; omega
      generalize runM c x y = M at *
      generalize runM { c with lo := c.lo, hi := bh } x y = M2 at *
      clear hP HR0 HR1 HR20 HR21 HR HR2 h0 hrf hT hT2 hT5 H5 HGd hlh HCD H4
      go_wp2
      clear d3 d4
      go_loopg [18] (xn + 1) (fun q iv wr => ∃ i : Nat, i + q = xn + 1 ∧ iv = .int .i64 i ∧ Hid (Bk w wr (w.heap.size + 1) #[.int .i64 c.letters, .int .i64 c.planes, .int .i64 c.regs, .int .i64 c.lo, .int .i64 c.hi, .int .i64 c.most, .slice s.t.a s.t.n s.t.c, .slice s.k.a s.k.n s.k.c, .slice s.i.a s.i.n s.i.c, .slice s.r.a s.r.n s.r.c] ∧ Bk w wr bd #[.int .i64 c.letters, .int .i64 c.planes, .int .i64 c.regs, .int .i64 c.lo, .int .i64 bh, .int .i64 c.most, .slice s.t.a s.t.n s.t.c, .slice s.k.a s.k.n s.k.c, .slice s.i.a s.i.n s.i.c, .slice s.r.a s.r.n s.r.c] ∧ Tb wr g gs P xn yn sa M.slots M.ends M.steps ∧ Tb wr g2 gs2 P xn yn sa2 M2.slots M2.ends M2.steps))
      case atStart => exact ⟨0, by omega, rfl, HK.out⟩
      case round =>
        clear HK
        obtain ⟨i, hiq, rfl, HK⟩ := hrel
        by_cases hi : i ≤ xn
        rotate_left
        · have hd : decide ((i : Int) ≤ (xn : Int)) = false := by simp; omega
          go_wp2
          go_ret
          exact ⟨rfl, HK.out.1.low⟩
        have hd : decide ((i : Int) ≤ (xn : Int)) = true := by simp; omega
        have hgk : 0 < gk := by omega
        obtain ⟨g1, rfl⟩ : ∃ g1, g1 = gk := ⟨_, rfl⟩
        go_wp2
        clear hd
        go_loopg [19] (yn + 1) (fun q jv wr => ∃ j : Nat, j + q = yn + 1 ∧ jv = .int .i64 j ∧ Hid (Bk w wr (w.heap.size + 1) #[.int .i64 c.letters, .int .i64 c.planes, .int .i64 c.regs, .int .i64 c.lo, .int .i64 c.hi, .int .i64 c.most, .slice s.t.a s.t.n s.t.c, .slice s.k.a s.k.n s.k.c, .slice s.i.a s.i.n s.i.c, .slice s.r.a s.r.n s.r.c] ∧ Bk w wr bd #[.int .i64 c.letters, .int .i64 c.planes, .int .i64 c.regs, .int .i64 c.lo, .int .i64 bh, .int .i64 c.most, .slice s.t.a s.t.n s.t.c, .slice s.k.a s.k.n s.k.c, .slice s.i.a s.i.n s.i.c, .slice s.r.a s.r.n s.r.c] ∧ Tb wr g gs P xn yn sa M.slots M.ends M.steps ∧ Tb wr g2 gs2 P xn yn sa2 M2.slots M2.ends M2.steps))
        case atStart => exact ⟨0, by omega, rfl, HK.out⟩
        case round =>
          clear HK
          obtain ⟨j, hjq, rfl, HK⟩ := hrel
          by_cases hj : j ≤ yn
          rotate_left
          · have hd : decide ((j : Int) ≤ (yn : Int)) = false := by simp; omega
            go_wp2
            go_roundg (g1 - 1)
            case rel => exact ⟨i + 1, by omega, by go_num, HK⟩
            case measure => omega
          have hd : decide ((j : Int) ≤ (yn : Int)) = true := by simp; omega
          have hgk2 : 0 < gk := by omega
          obtain ⟨g3, rfl⟩ : ∃ g3, g3 = gk := ⟨_, rfl⟩
          go_wp2
          clear hd
          go_loopg [20] P (fun q pv wr => ∃ p : Nat, p + q = P ∧ pv = .int .i64 p ∧ Hid (Bk w wr (w.heap.size + 1) #[.int .i64 c.letters, .int .i64 c.planes, .int .i64 c.regs, .int .i64 c.lo, .int .i64 c.hi, .int .i64 c.most, .slice s.t.a s.t.n s.t.c, .slice s.k.a s.k.n s.k.c, .slice s.i.a s.i.n s.i.c, .slice s.r.a s.r.n s.r.c] ∧ Bk w wr bd #[.int .i64 c.letters, .int .i64 c.planes, .int .i64 c.regs, .int .i64 c.lo, .int .i64 bh, .int .i64 c.most, .slice s.t.a s.t.n s.t.c, .slice s.k.a s.k.n s.k.c, .slice s.i.a s.i.n s.i.c, .slice s.r.a s.r.n s.r.c] ∧ Tb wr g gs P xn yn sa M.slots M.ends M.steps ∧ Tb wr g2 gs2 P xn yn sa2 M2.slots M2.ends M2.steps))
          case atStart => exact ⟨0, by omega, rfl, HK.out⟩
          case round =>
            clear HK
            obtain ⟨p, hpq, rfl, HK⟩ := hrel
            have c1 := HK.out.1.cell 1 (.int .i64 c.planes) rfl
            rw [HP.out.1] at c1
            by_cases hp : p < P
            rotate_left
            · have hd : decide ((p : Int) < (P : Int)) = false := by simp; omega
              go_wp2
              go_roundg (g3 - 1)
              case rel => exact ⟨j + 1, by omega, by go_num, HK⟩
              case measure => omega
            have hd : decide ((p : Int) < (P : Int)) = true := by simp; omega
            have HV := HNr.out i j p hi hj hp
            have HV2 : Hid (leC (atB P xn yn M.slots p i j) (atB P xn yn M2.slots p i j) ∧ ((atB P xn yn M2.slots p i j).has = true → c.lo ≤ (j : Int) - i ∧ (j : Int) - i ≤ bh)) := HV
            clear HV
            go_wp2_with fail
            refine (value_calls HK.out.2.2.1 p i j).mono ?_
            rintro e w7 ⟨rfl, hb7⟩
            have HK7 : Hid (Bk w w7 (w.heap.size + 1) #[.int .i64 c.letters, .int .i64 c.planes, .int .i64 c.regs, .int .i64 c.lo, .int .i64 c.hi, .int .i64 c.most, .slice s.t.a s.t.n s.t.c, .slice s.k.a s.k.n s.k.c, .slice s.i.a s.i.n s.i.c, .slice s.r.a s.r.n s.r.c] ∧ Bk w w7 bd #[.int .i64 c.letters, .int .i64 c.planes, .int .i64 c.regs, .int .i64 c.lo, .int .i64 bh, .int .i64 c.most, .slice s.t.a s.t.n s.t.c, .slice s.k.a s.k.n s.k.c, .slice s.i.a s.i.n s.i.c, .slice s.r.a s.r.n s.r.c] ∧ Tb w7 g gs P xn yn sa M.slots M.ends M.steps ∧ Tb w7 g2 gs2 P xn yn sa2 M2.slots M2.ends M2.steps) := ⟨HK.out.1.next hb7, HK.out.2.1.next hb7, HK.out.2.2.1.next hb7, HK.out.2.2.2.next hb7⟩
            clear hb7 HK c1
            go_wp2_with fail
            refine (value_calls HK7.out.2.2.2 p i j).mono ?_
            rintro e w8 ⟨rfl, hb8⟩
            have HK8 : Hid (Bk w w8 (w.heap.size + 1) #[.int .i64 c.letters, .int .i64 c.planes, .int .i64 c.regs, .int .i64 c.lo, .int .i64 c.hi, .int .i64 c.most, .slice s.t.a s.t.n s.t.c, .slice s.k.a s.k.n s.k.c, .slice s.i.a s.i.n s.i.c, .slice s.r.a s.r.n s.r.c] ∧ Bk w w8 bd #[.int .i64 c.letters, .int .i64 c.planes, .int .i64 c.regs, .int .i64 c.lo, .int .i64 bh, .int .i64 c.most, .slice s.t.a s.t.n s.t.c, .slice s.k.a s.k.n s.k.c, .slice s.i.a s.i.n s.i.c, .slice s.r.a s.r.n s.r.c] ∧ Tb w8 g gs P xn yn sa M.slots M.ends M.steps ∧ Tb w8 g2 gs2 P xn yn sa2 M2.slots M2.ends M2.steps) := ⟨HK7.out.1.next hb8, HK7.out.2.1.next hb8, HK7.out.2.2.1.next hb8, HK7.out.2.2.2.next hb8⟩
            clear hb8 HK7
            generalize atB P xn yn M.slots p i j = V at *
            generalize atB P xn yn M2.slots p i j = V2 at *
            obtain ⟨vh, vm, vn⟩ := V
            obtain ⟨vh2, vm2, vn2⟩ := V2
            cases vh2 with
            | false =>
              clear HV2
              go_wp2
              go_roundg (gk - 1)
              case rel => exact ⟨p + 1, by omega, by go_num, HK8⟩
              case measure => omega
            | true =>
              obtain ⟨q1, q2⟩ := HV2.out.1 rfl
              obtain ⟨q3, q4⟩ := HV2.out.2 rfl
              simp only at q1 q2
              subst q1
              clear HV2
              have k1 : decide (vn < vn2) = false := by simp <;> omega
              have k2 : decide ((j : Int) - (i : Int) < c.lo) = false := by simp; omega
              have k3 : decide (bh < (j : Int) - (i : Int)) = false := by simp; omega
              have d3 := HK8.out.2.1.cell 3 (.int .i64 c.lo) rfl
              have d4 := HK8.out.2.1.cell 4 (.int .i64 bh) rfl
              go_wp2
              go_roundg (gk - 1)
              case rel => exact ⟨p + 1, by omega, by go_num, HK8⟩
              case measure => omega
    · have hhid : decide (bh < c.hi) = false := by simpa using hhi
      go_wp2_with fail
      have HD : Hid (Bk w (w4.alloc (.cells #[.int .i64 c.letters, .int .i64 c.planes, .int .i64 c.regs, .int .i64 c.lo, .int .i64 c.hi, .int .i64 c.most, .slice s.t.a s.t.n s.t.c, .slice s.k.a s.k.n s.k.c, .slice s.i.a s.i.n s.i.c, .slice s.r.a s.r.n s.r.c] 26)) w4.heap.size #[.int .i64 c.letters, .int .i64 c.planes, .int .i64 c.regs, .int .i64 c.lo, .int .i64 c.hi, .int .i64 c.most, .slice s.t.a s.t.n s.t.c, .slice s.k.a s.k.n s.k.c, .slice s.i.a s.i.n s.i.c, .slice s.r.a s.r.n s.r.c]) := ⟨H4.out.low.trans ((below_new _).mono H4.out.low.size), heap_alloc_new _ _⟩
      have HCD : Hid (∀ W, Below w.heap.size w W → CdAt W { c with lo := c.lo, hi := c.hi } s) := fun W hW => ⟨HC.out.1.table.below hW, HC.out.1.consts.below hW, HC.out.1.cell.below hW, HC.out.1.arrows.below hW⟩
      refine (run_calls { c with lo := c.lo, hi := c.hi } s ⟨xa, xn, xc⟩ ⟨ya, yn, yc⟩ x y _ (HCD.out _ HD.out.low) (HC.out.2.1.below HD.out.low) (HC.out.2.2.below HD.out.low)).mono ?_
      rintro e w5 ⟨hb5, r2, rfl, hr21, hr20⟩
      have H5 : Hid (Bk w w5 (w.heap.size + 1) #[.int .i64 c.letters, .int .i64 c.planes, .int .i64 c.regs, .int .i64 c.lo, .int .i64 c.hi, .int .i64 c.most, .slice s.t.a s.t.n s.t.c, .slice s.k.a s.k.n s.k.c, .slice s.i.a s.i.n s.i.c, .slice s.r.a s.r.n s.r.c] ∧ Bk w w5 w4.heap.size #[.int .i64 c.letters, .int .i64 c.planes, .int .i64 c.regs, .int .i64 c.lo, .int .i64 c.hi, .int .i64 c.most, .slice s.t.a s.t.n s.t.c, .slice s.k.a s.k.n s.k.c, .slice s.i.a s.i.n s.i.c, .slice s.r.a s.r.n s.r.c] ∧ Below w4.heap.size w4 w5) := ⟨(H4.out.next (below_new _)).next hb5, HD.out.next hb5, (below_new _).trans (hb5.mono (by simp))⟩
      have HR21 : Hid (refB (chkB { c with lo := c.lo, hi := c.hi }).2 { c with lo := c.lo, hi := c.hi } x y ≠ 0 → r2 = .pointer none) := hr21
      have HR20 : Hid (refB (chkB { c with lo := c.lo, hi := c.hi }).2 { c with lo := c.lo, hi := c.hi } x y = 0 → ∃ g gs sa, r2 = .pointer (some ⟨g, 0, none⟩) ∧ Tb w5 g gs c.planes.toNat x.length y.length sa (runM { c with lo := c.lo, hi := c.hi } x y).slots (runM { c with lo := c.lo, hi := c.hi } x y).ends (runM { c with lo := c.lo, hi := c.hi } x y).steps) := fun h => by
        obtain ⟨g, gs, sa, q1, _, q3, _⟩ := hr20 h
        exact ⟨g, gs, sa, q1, q3⟩
      clear hb5 hr21 hr20 HD c0 c1 c2 c3 c4 c5 c6 c7 c8 c9
      obtain ⟨bd, hbd⟩ : ∃ bd, w4.heap.size = bd := ⟨_, rfl⟩
      have HBd : Hid (w4.heap.size = bd) := hbd
      rw [hbd] at H5 ⊢
      clear hbd
      obtain ⟨R2, hR2⟩ : ∃ R2, refB (chkB { c with lo := c.lo, hi := c.hi }).2 { c with lo := c.lo, hi := c.hi } x y = R2 := ⟨_, rfl⟩
      have HR2 : Hid (refB (chkB { c with lo := c.lo, hi := c.hi }).2 { c with lo := c.lo, hi := c.hi } x y = R2) := hR2
      rw [hR2] at HR21 HR20 ⊢
      clear hR2
      have d3 := H5.out.2.1.cell 3 (.int .i64 c.lo) rfl
      have d4 := H5.out.2.1.cell 4 (.int .i64 c.hi) rfl
      by_cases h0 : er = 0
      rotate_left
      · have hd : (er != 0) = true := by simp [h0]
        have hRe : R = er := by rw [← HR.out]; unfold refB; rw [if_pos h0]
        subst hRe
        obtain rfl := HR1.out h0
        have hee : (R == R) = true := by simp
        clear h0
        go_wp2
        go_ret
        exact ⟨rfl, H5.out.1.low⟩
      have hd : (er != 0) = false := by simp [h0]
      have HG : Hid (Gk c) := gk_of (HEr.out.trans h0)
      have HCk : Hid ((chkB c).2 = 0) := HEr.out.trans h0
      by_cases hlh : c.hi < c.lo
      · have hlhd : decide (c.hi < c.lo) = true := by simpa using hlh
        have h160 : R2 = 160 := by rw [← HR2.out]; exact ref_bad _ _ _ hlh
        subst h160
        obtain rfl := HR21.out (by decide)
        clear hlh h0
        go_wp2
        go_ret
        exact ⟨rfl, H5.out.1.low⟩
      have hlhd : decide (c.hi < c.lo) = false := by simpa using hlh
      have HGd : Hid (Gk { c with lo := c.lo, hi := c.hi } ∧ refB (chkB { c with lo := c.lo, hi := c.hi }).2 { c with lo := c.lo, hi := c.hi } x y = refB (chkB c).2 c x y) := chk_band HCk.out _ _ (by omega) (by omega) (by omega) x y
      have hRR : R2 = R := by rw [← HR2.out, ← HR.out, HGd.out.2, HEr.out]
      subst hRR
      by_cases hR0 : R2 = 0
      rotate_left
      · obtain rfl := HR1.out hR0
        obtain rfl := HR21.out hR0
        have hrd : (R2 != 0) = true := by simp [hR0]
        have hrr : (R2 != R2) = false := by simp
        clear hlh h0 hR0
        go_wp2
        go_ret
        exact ⟨rfl, H5.out.1.low⟩
      obtain ⟨g, gs, sa, rfl, _, hT, _⟩ := HR0.out hR0
      obtain ⟨g2, gs2, sa2, rfl, hT2⟩ := HR20.out hR0
      have hrf := HR.out
      rw [hR0, ← HEr.out] at hrf
      have HOk : Hid ((x.length : Int) ≤ c.most ∧ (y.length : Int) ≤ c.most) := (ref_0 hrf).2.1
      subst hR0
      have HXY : Hid (x.length = xn ∧ y.length = yn) := ⟨HC.out.2.1.length, HC.out.2.2.length⟩
      obtain ⟨P, hP⟩ : ∃ P : Nat, c.planes = P := ⟨c.planes.toNat, by have := HG.out.rt.planes; omega⟩
      have HP : Hid (c.planes = P ∧ P ≤ 10 ∧ c.planes.toNat = P) := ⟨hP, by have := HG.out.rt.planes; omega, by omega⟩
      have HNr : Hid (∀ i j p : Nat, i ≤ xn → j ≤ yn → p < P → leC (atB P xn yn (runM c x y).slots p i j) (atB P xn yn (runM { c with lo := c.lo, hi := c.hi } x y).slots p i j) ∧ ((atB P xn yn (runM { c with lo := c.lo, hi := c.hi } x y).slots p i j).has = true → c.lo ≤ (j : Int) - i ∧ (j : Int) - i ≤ c.hi)) := fun i j p hi hj hp => by
        have hn := narrow HG.out HGd.out.1 (two_band c _ _) rfl (by show c.lo ≤ c.lo; omega) (by show c.hi ≤ c.hi; omega) x y HOk.out.1 HOk.out.2 (i + j) i j rfl (by rw [HXY.out.1]; exact hi) (by rw [HXY.out.2]; exact hj) p (by rw [HP.out.2.2]; exact hp)
        rw [HP.out.2.2, HXY.out.2] at hn
        simp only [atB_in hp hi hj]
        refine ⟨hn.1, fun hh => ?_⟩
        cases hb : inBd { c with lo := c.lo, hi := c.hi } i j with
        | false => rw [hn.2 hb] at hh; cases hh
        | true =>
          unfold inBd at hb
          simp only [Bool.and_eq_true, decide_eq_true_eq] at hb
          exact hb
      have hT5 := hT.next (by rw [HBd.out]; exact H5.out.2.2)
      rw [HP.out.2.2, HXY.out.1, HXY.out.2] at hT5 hT2
      have HK : Hid (Bk w w5 (w.heap.size + 1) #[.int .i64 c.letters, .int .i64 c.planes, .int .i64 c.regs, .int .i64 c.lo, .int .i64 c.hi, .int .i64 c.most, .slice s.t.a s.t.n s.t.c, .slice s.k.a s.k.n s.k.c, .slice s.i.a s.i.n s.i.c, .slice s.r.a s.r.n s.r.c] ∧ Bk w w5 bd #[.int .i64 c.letters, .int .i64 c.planes, .int .i64 c.regs, .int .i64 c.lo, .int .i64 c.hi, .int .i64 c.most, .slice s.t.a s.t.n s.t.c, .slice s.k.a s.k.n s.k.c, .slice s.i.a s.i.n s.i.c, .slice s.r.a s.r.n s.r.c] ∧ Tb w5 g gs P xn yn sa (runM c x y).slots (runM c x y).ends (runM c x y).steps ∧ Tb w5 g2 gs2 P xn yn sa2 (runM { c with lo := c.lo, hi := c.hi } x y).slots (runM { c with lo := c.lo, hi := c.hi } x y).ends (runM { c with lo := c.lo, hi := c.hi } x y).steps) := ⟨H5.out.1, H5.out.2.1, hT5, hT2⟩
      have hx20 : (xn : Int) ≤ 65536 := by have h1 := HOk.out.1; have h2 := HG.out.rt.most; have h3 := HXY.out.1; omega
      have hy20 : (yn : Int) ≤ 65536 := by have h1 := HOk.out.2; have h2 := HG.out.rt.most; have h3 := HXY.out.2; omega
      have hP10 : (P : Int) ≤ 10 := by have := HP.out.2.1; omega
      generalize runM c x y = M at *
      clear hP HR0 HR1 HR20 HR21 HR HR2 h0 hrf hT hT2 hT5 H5 HGd hlh HCD H4
      go_wp2
      clear d3 d4
      go_loopg [18] (xn + 1) (fun q iv wr => ∃ i : Nat, i + q = xn + 1 ∧ iv = .int .i64 i ∧ Hid (Bk w wr (w.heap.size + 1) #[.int .i64 c.letters, .int .i64 c.planes, .int .i64 c.regs, .int .i64 c.lo, .int .i64 c.hi, .int .i64 c.most, .slice s.t.a s.t.n s.t.c, .slice s.k.a s.k.n s.k.c, .slice s.i.a s.i.n s.i.c, .slice s.r.a s.r.n s.r.c] ∧ Bk w wr bd #[.int .i64 c.letters, .int .i64 c.planes, .int .i64 c.regs, .int .i64 c.lo, .int .i64 c.hi, .int .i64 c.most, .slice s.t.a s.t.n s.t.c, .slice s.k.a s.k.n s.k.c, .slice s.i.a s.i.n s.i.c, .slice s.r.a s.r.n s.r.c] ∧ Tb wr g gs P xn yn sa M.slots M.ends M.steps ∧ Tb wr g2 gs2 P xn yn sa2 M.slots M.ends M.steps))
      case atStart => exact ⟨0, by omega, rfl, HK.out⟩
      case round =>
        clear HK
        obtain ⟨i, hiq, rfl, HK⟩ := hrel
        by_cases hi : i ≤ xn
        rotate_left
        · have hd : decide ((i : Int) ≤ (xn : Int)) = false := by simp; omega
          go_wp2
          go_ret
          exact ⟨rfl, HK.out.1.low⟩
        have hd : decide ((i : Int) ≤ (xn : Int)) = true := by simp; omega
        have hgk : 0 < gk := by omega
        obtain ⟨g1, rfl⟩ : ∃ g1, g1 = gk := ⟨_, rfl⟩
        go_wp2
        clear hd
        go_loopg [19] (yn + 1) (fun q jv wr => ∃ j : Nat, j + q = yn + 1 ∧ jv = .int .i64 j ∧ Hid (Bk w wr (w.heap.size + 1) #[.int .i64 c.letters, .int .i64 c.planes, .int .i64 c.regs, .int .i64 c.lo, .int .i64 c.hi, .int .i64 c.most, .slice s.t.a s.t.n s.t.c, .slice s.k.a s.k.n s.k.c, .slice s.i.a s.i.n s.i.c, .slice s.r.a s.r.n s.r.c] ∧ Bk w wr bd #[.int .i64 c.letters, .int .i64 c.planes, .int .i64 c.regs, .int .i64 c.lo, .int .i64 c.hi, .int .i64 c.most, .slice s.t.a s.t.n s.t.c, .slice s.k.a s.k.n s.k.c, .slice s.i.a s.i.n s.i.c, .slice s.r.a s.r.n s.r.c] ∧ Tb wr g gs P xn yn sa M.slots M.ends M.steps ∧ Tb wr g2 gs2 P xn yn sa2 M.slots M.ends M.steps))
        case atStart => exact ⟨0, by omega, rfl, HK.out⟩
        case round =>
          clear HK
          obtain ⟨j, hjq, rfl, HK⟩ := hrel
          by_cases hj : j ≤ yn
          rotate_left
          · have hd : decide ((j : Int) ≤ (yn : Int)) = false := by simp; omega
            go_wp2
            go_roundg (g1 - 1)
            case rel => exact ⟨i + 1, by omega, by go_num, HK⟩
            case measure => omega
          have hd : decide ((j : Int) ≤ (yn : Int)) = true := by simp; omega
          have hgk2 : 0 < gk := by omega
          obtain ⟨g3, rfl⟩ : ∃ g3, g3 = gk := ⟨_, rfl⟩
          go_wp2
          clear hd
          go_loopg [20] P (fun q pv wr => ∃ p : Nat, p + q = P ∧ pv = .int .i64 p ∧ Hid (Bk w wr (w.heap.size + 1) #[.int .i64 c.letters, .int .i64 c.planes, .int .i64 c.regs, .int .i64 c.lo, .int .i64 c.hi, .int .i64 c.most, .slice s.t.a s.t.n s.t.c, .slice s.k.a s.k.n s.k.c, .slice s.i.a s.i.n s.i.c, .slice s.r.a s.r.n s.r.c] ∧ Bk w wr bd #[.int .i64 c.letters, .int .i64 c.planes, .int .i64 c.regs, .int .i64 c.lo, .int .i64 c.hi, .int .i64 c.most, .slice s.t.a s.t.n s.t.c, .slice s.k.a s.k.n s.k.c, .slice s.i.a s.i.n s.i.c, .slice s.r.a s.r.n s.r.c] ∧ Tb wr g gs P xn yn sa M.slots M.ends M.steps ∧ Tb wr g2 gs2 P xn yn sa2 M.slots M.ends M.steps))
          case atStart => exact ⟨0, by omega, rfl, HK.out⟩
          case round =>
            clear HK
            obtain ⟨p, hpq, rfl, HK⟩ := hrel
            have c1 := HK.out.1.cell 1 (.int .i64 c.planes) rfl
            rw [HP.out.1] at c1
            by_cases hp : p < P
            rotate_left
            · have hd : decide ((p : Int) < (P : Int)) = false := by simp; omega
              go_wp2
              go_roundg (g3 - 1)
              case rel => exact ⟨j + 1, by omega, by go_num, HK⟩
              case measure => omega
            have hd : decide ((p : Int) < (P : Int)) = true := by simp; omega
            have HV := HNr.out i j p hi hj hp
            have HV2 : Hid (leC (atB P xn yn M.slots p i j) (atB P xn yn M.slots p i j) ∧ ((atB P xn yn M.slots p i j).has = true → c.lo ≤ (j : Int) - i ∧ (j : Int) - i ≤ c.hi)) := HV
            clear HV
            go_wp2_with fail
            refine (value_calls HK.out.2.2.1 p i j).mono ?_
            rintro e w7 ⟨rfl, hb7⟩
            have HK7 : Hid (Bk w w7 (w.heap.size + 1) #[.int .i64 c.letters, .int .i64 c.planes, .int .i64 c.regs, .int .i64 c.lo, .int .i64 c.hi, .int .i64 c.most, .slice s.t.a s.t.n s.t.c, .slice s.k.a s.k.n s.k.c, .slice s.i.a s.i.n s.i.c, .slice s.r.a s.r.n s.r.c] ∧ Bk w w7 bd #[.int .i64 c.letters, .int .i64 c.planes, .int .i64 c.regs, .int .i64 c.lo, .int .i64 c.hi, .int .i64 c.most, .slice s.t.a s.t.n s.t.c, .slice s.k.a s.k.n s.k.c, .slice s.i.a s.i.n s.i.c, .slice s.r.a s.r.n s.r.c] ∧ Tb w7 g gs P xn yn sa M.slots M.ends M.steps ∧ Tb w7 g2 gs2 P xn yn sa2 M.slots M.ends M.steps) := ⟨HK.out.1.next hb7, HK.out.2.1.next hb7, HK.out.2.2.1.next hb7, HK.out.2.2.2.next hb7⟩
            clear hb7 HK c1
            go_wp2_with fail
            refine (value_calls HK7.out.2.2.2 p i j).mono ?_
            rintro e w8 ⟨rfl, hb8⟩
            have HK8 : Hid (Bk w w8 (w.heap.size + 1) #[.int .i64 c.letters, .int .i64 c.planes, .int .i64 c.regs, .int .i64 c.lo, .int .i64 c.hi, .int .i64 c.most, .slice s.t.a s.t.n s.t.c, .slice s.k.a s.k.n s.k.c, .slice s.i.a s.i.n s.i.c, .slice s.r.a s.r.n s.r.c] ∧ Bk w w8 bd #[.int .i64 c.letters, .int .i64 c.planes, .int .i64 c.regs, .int .i64 c.lo, .int .i64 c.hi, .int .i64 c.most, .slice s.t.a s.t.n s.t.c, .slice s.k.a s.k.n s.k.c, .slice s.i.a s.i.n s.i.c, .slice s.r.a s.r.n s.r.c] ∧ Tb w8 g gs P xn yn sa M.slots M.ends M.steps ∧ Tb w8 g2 gs2 P xn yn sa2 M.slots M.ends M.steps) := ⟨HK7.out.1.next hb8, HK7.out.2.1.next hb8, HK7.out.2.2.1.next hb8, HK7.out.2.2.2.next hb8⟩
            clear hb8 HK7
            generalize atB P xn yn M.slots p i j = V at *
            obtain ⟨vh, vm, vn⟩ := V
            cases vh with
            | false =>
              clear HV2
              go_wp2
              go_roundg (gk - 1)
              case rel => exact ⟨p + 1, by omega, by go_num, HK8⟩
              case measure => omega
            | true =>
              obtain ⟨q1, q2⟩ := HV2.out.1 rfl
              obtain ⟨q3, q4⟩ := HV2.out.2 rfl
              simp only at q1 q2
              clear HV2
              have k1 : decide (vn < vn) = false := by simp <;> omega
              have k2 : decide ((j : Int) - (i : Int) < c.lo) = false := by simp; omega
              have k3 : decide (c.hi < (j : Int) - (i : Int)) = false := by simp; omega
              have d3 := HK8.out.2.1.cell 3 (.int .i64 c.lo) rfl
              have d4 := HK8.out.2.1.cell 4 (.int .i64 c.hi) rfl
              go_wp2
              go_roundg (gk - 1)
              case rel => exact ⟨p + 1, by omega, by go_num, HK8⟩
              case measure => omega

theorem narrow_in (c : Cd) (s : Ls) (sx : Sl) (x : List Int) (sy : Sl) (y : List Int) (n bl bh : Int) (w : World) (h : CdIn w c s ∧ (IntsAt w sx.a sx.n x ∧ SlIn sx) ∧ (IntsAt w sy.a sy.n y ∧ SlIn sy)) :
    Calls Try.prog 8 #[.agg (cdCells c s ++ #[.slice sx.a sx.n sx.c, .slice sy.a sy.n sy.c, .int .i64 n]), .int .i64 bl, .int .i64 bh] w fun e w' => e = .returned (.bool true) ∧ Below w.heap.size w w' := narrow_walk c s sx x sy y n bl bh w h.1 h.2.1 h.2.2

namespace machineNarrow
open Go.ChangeShapes Go.WideShapes Go.ChangeAt Go.RowKit
open Go.ChangeMaps (open_string shut_string)
theorem own : ownKnob Try.prog.godebug = none := by kernel_rfl
theorem laidOut : laidOutB Try.prog = true := by kernel_rfl
set_option maxRecDepth 100000 in
theorem lifted (os : Os) (started : os.Started) (H : Type) (enc : TypeId × Value → H) :
    ReturnsInHanded {} Try.checked os 8 .any (Rows.machineNarrowSpec.pre6 enc Try.prog Try.f8 Rows.machineNarrowRow.domain false) (Rows.machineNarrowSpec.post enc Try.prog Try.f8 false true false false) := by
  refine returnsInHanded_of_change_sized (C := Try.checked) own started (by kernel_rfl) Try.func8
    (ChangeSpec.witness6 (enc := enc) (C := Try.checked) false ⟨#[], #[.agg #[.int .i64 0, .int .i64 0, .int .i64 0, .int .i64 0, .int .i64 0, .int .i64 0, .slice none 0 0, .slice none 0 0, .slice none 0 0, .slice none 0 0, .slice none 0 0, .slice none 0 0, .int .i64 0], .int .i64 0, .int .i64 0], []⟩ 8 (by kernel_rfl) (by kernel_rfl) (by kernel_rfl) (by kernel_rfl)) ?_
  intro W base args ds gs before hval0 hW _ hsz0 _
  have hval : ∀ (j : Nat) t v, Try.f8.params[j]? = some t → args[j]? = some v → Value.okWide Try.prog W .any base t v := hval0
  have hsz : (DataW.weightsEach Try.prog (Try.f8.params.toList ++ Rows.machineNarrowSpec.plain.varTypes Try.prog) (ds ++ gs)).all (· ≤ reachBytes) = true := hsz0
  have hW' := hW
  obtain ⟨p, q, hA0, hV, rfl, hfz, hnd⟩ := hW
  have hA : DataW.TrodAll enc Try.prog W 0 (fun _ => true) true Try.f8.params.toList args.toList ds p := hA0
  rw [Try.params8] at hA hval hsz
  obtain ⟨v0, vs0, d0, ds0, p0, q0, hargs, rfl, rfl, h0, r0⟩ := trodAll_cons hA
  obtain ⟨v1, vs1, d1, ds1, p1, q1, rfl, rfl, rfl, h1, r1⟩ := trodAll_cons r0
  obtain ⟨v2, vs2, d2, ds2, p2, q2, rfl, rfl, rfl, h2, r2⟩ := trodAll_cons r1
  obtain ⟨rfl, rfl, rfl⟩ := trodAll_nil r2
  obtain rfl : args = #[v0, v1, v2] := by cases args; simp_all
  obtain ⟨rfl, rfl⟩ := trodVars_none hV
  have hw : ∀ (j : Nat) (t : TypeId) (d : DataW H), ([62, 3, 3] ++ Rows.machineNarrowSpec.plain.varTypes Try.prog)[j]? = some t → ([d0, d1, d2] ++ [])[j]? = some d → ∀ n ∈ d.weights Try.prog t, n ≤ reachBytes := fun j t d ht hd n hn =>
    of_decide_eq_true (List.all_eq_true.1 hsz _ (DataW.weights_mem_each ht hd n hn))
  obtain ⟨cs0, rfl, hcs0⟩ := okWide_struct Try.underlying62 (hval 0 62 v0 rfl rfl)
  have lt0 : ∀ x ∈ p0, x.block < W.heap.size := by obtain ⟨m, hm⟩ := h0; exact DataW.trod_lt m _ _ _ hm
  obtain ⟨z0, s0, sx0, lx0, sy0, ly0, n0, e0, in0⟩ := case_in hcs0 h0
  subst e0
  obtain ⟨a1, rfl, rfl, rfl, w1⟩ := open_int Try.underlying3 (hval 1 3 v1 rfl rfl) h1
  obtain ⟨a2, rfl, rfl, rfl, w2⟩ := open_int Try.underlying3 (hval 2 3 v2 rfl rfl) h2
  clear hA0 hval0
  refine (narrow_in z0 s0 sx0 lx0 sy0 ly0 n0 a1 a2 W in0).mono fun e W' ⟨he, bel⟩ => ?_
  subst he
  exact ⟨_, rfl, _, _, _, [], _, [], hW', trodAll_mk1 (shut_bool Try.underlying4 _), (trodAll_cons_mk (Below.trod laidOut (by kernel_rfl) (of_decide_eq_true (by kernel_rfl)) h0 bel lt0) (trodAll_cons_mk (shut_int Try.underlying3 w1) (trodAll_cons_mk (shut_int Try.underlying3 w2) trodAll_mk0))), rfl, bel.frame _, fun h => by cases h⟩
end machineNarrow

theorem machineNarrow_holds : Rows.MachineNarrowSaid :=
  OpenClaim.holds_of_wide 8 Try.f8 rfl rfl rfl rfl rfl rfl rfl ⟨rfl, rfl, rfl, rfl, rfl⟩ rfl rfl rfl rfl rfl (by kernel_rfl) Try.func8 (by kernel_rfl)
    (of_decide_eq_true (by kernel_rfl)) (by unfold Func.isWrapper; first | (rw [if_pos (by decide +kernel)]; kernel_rfl) | (rw [if_neg (by decide +kernel)]; exact ⟨rfl, rfl⟩))
    (fun os started H enc _ => machineNarrow.lifted os started H enc)

end Go.Proofs.Ytjpeoejielamiaa
