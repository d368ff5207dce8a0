/-
  What stands at a cell hangs on the sequences up to it alone: the law.
-/
import Derived.Test.YtjpeoejielamiaaMlA
import Derived.Test.YtjpeoejielamiaaMpG
namespace Go.Proofs.Ytjpeoejielamiaa
open Go.RowKit

theorem run_cut22 (ia : Option Addr) (n c m : Nat) (hm : m ≤ c) (W : World) : (Instr.slice 22 (.slice ia n c) none (some (.int .i64 (m : Int))) none).run Try.prog W = .ok (.slice ia m c) W := by
  have h : (m : Int) ≤ (c : Int) := by omega
  rw [run_slice_h (w := W) (t := 22) (a := ia) (len := n) (cap := c) (ht := by kernel_rfl) .i64 (m : Int) (by omega) h]
  have hz : ((sizeOf (Try.prog.elem 22)).run Try.prog W) = .ok 1 W := by kernel_rfl
  rw [hz]
  cases ia with
  | none => simp [Result.andThen, sliced]
  | some ad => simp [Result.andThen, sliced, Addr.add]
theorem IntsAt.take {w : World} {a : Option Addr} {n : Nat} {l : List Int} (h : IntsAt w a n l) {k : Nat} (hk : k ≤ n) : IntsAt w a k (l.take k) := by
  refine ⟨by rw [List.length_take, h.length]; omega, by have := h.short; omega, fun h0 => ?_⟩
  obtain ⟨b, off, e, hc⟩ := h.cells (by omega)
  refine ⟨b, off, e, fun i hi => ?_⟩
  rw [hc i (by omega)]
  congr 2
  rw [List.getD, List.getD, List.getElem?_take_of_lt hi]
theorem letters_take {c : Cd} {x : List Int} (h : lettersB c x) (k : Nat) : lettersB c (x.take k) := fun i hi => by
  rw [List.length_take] at hi
  have := h i (by omega)
  rwa [List.getD, List.getElem?_take_of_lt (by omega)]
theorem let_of {c : Cd} {x : List Int} (h : lettersB c x) : letB c.letters x = true := by
  unfold letB
  rw [List.all_eq_true]
  intro z hz
  obtain ⟨i, hi, rfl⟩ := List.getElem_of_mem hz
  have := h i hi
  rw [List.getD, List.getElem?_eq_getElem hi] at this
  simp at this ⊢
  omega
theorem ref_mk {c : Cd} {x y : List Int} (h0 : (chkB c).2 = 0) (h1 : (x.length : Int) ≤ c.most ∧ (y.length : Int) ≤ c.most) (h2 : lettersB c x ∧ lettersB c y) (h3 : (x.length + 1) * (y.length + 1) ≤ 1048576) : refB (chkB c).2 c x y = 0 := by
  unfold refB
  rw [if_neg (fun h => h h0), if_neg (by omega), if_neg (by rw [let_of h2.1, let_of h2.2]; simp), if_neg]
  have : (((x.length + 1) * (y.length + 1) : Nat) : Int) = ((x.length : Int) + 1) * ((y.length : Int) + 1) := by rw [Int.natCast_mul]; push_cast; rfl
  omega
set_option maxRecDepth 20000 in
set_option maxHeartbeats 8000000 in
theorem begins_walk (c : Cd) (s : Ls) (sx : Sl) (x : List Int) (sy : Sl) (y : List Int) (n : Int) (w : World) (hc : CdIn w c s) (hx : IntsAt w sx.a sx.n x ∧ SlIn sx) (hy : IntsAt w sy.a sy.n y ∧ SlIn sy) :
    Calls Try.prog 4 #[.agg (cdCells c s ++ #[.slice sx.a sx.n sx.c, .slice sy.a sy.n sy.c, .int .i64 n])] w fun e w' => e = .returned (.bool true) ∧ Below w.heap.size w w' := by
  have HSi : Hid (sx.n ≤ sx.c ∧ sy.n ≤ sy.c) := ⟨hx.2.1, hy.2.1⟩
  have HC : Hid (CdAt w c s ∧ IntsAt w sx.a sx.n x ∧ IntsAt w sy.a sy.n y) := ⟨hc.at', hx.1, hy.1⟩
  clear hc hx hy
  obtain ⟨xa, xn, xc⟩ := sx
  obtain ⟨ya, yn, yc⟩ := sy
  rw [show cdCells c s ++ #[.slice xa xn xc, .slice ya yn yc, .int .i64 n] = #[.int .i64 c.letters, .int .i64 c.planes, .int .i64 c.regs, .int .i64 c.lo, .int .i64 c.hi, .int .i64 c.most, .slice s.t.a s.t.n s.t.c, .slice s.k.a s.k.n s.k.c, .slice s.i.a s.i.n s.i.c, .slice s.r.a s.r.n s.r.c, .slice xa xn xc, .slice ya yn yc, .int .i64 n] from rfl]
  have H0 : Hid (Bk w ((w.alloc (.cells #[.int .i64 c.letters, .int .i64 c.planes, .int .i64 c.regs, .int .i64 c.lo, .int .i64 c.hi, .int .i64 c.most, .slice s.t.a s.t.n s.t.c, .slice s.k.a s.k.n s.k.c, .slice s.i.a s.i.n s.i.c, .slice s.r.a s.r.n s.r.c, .slice xa xn xc, .slice ya yn yc, .int .i64 n] 62)).alloc (.cells #[.int .i64 c.letters, .int .i64 c.planes, .int .i64 c.regs, .int .i64 c.lo, .int .i64 c.hi, .int .i64 c.most, .slice s.t.a s.t.n s.t.c, .slice s.k.a s.k.n s.k.c, .slice s.i.a s.i.n s.i.c, .slice s.r.a s.r.n s.r.c] 26)) (w.heap.size + 1) #[.int .i64 c.letters, .int .i64 c.planes, .int .i64 c.regs, .int .i64 c.lo, .int .i64 c.hi, .int .i64 c.most, .slice s.t.a s.t.n s.t.c, .slice s.k.a s.k.n s.k.c, .slice s.i.a s.i.n s.i.c, .slice s.r.a s.r.n s.r.c]) := ⟨(below_new _).alloc (by simp) _, (new_two _ _ _).1⟩
  go_enter Try.func4, Try.ntmps4
  go_wp2_with fail
  refine (small_calls c s ⟨xa, xn, xc⟩ ⟨ya, yn, yc⟩ x y _ (HC.out.1.below H0.out.low) (HC.out.2.1.below H0.out.low) (HC.out.2.2.below H0.out.low)).mono ?_
  rintro e w1 ⟨⟨b, rfl, hsm⟩, hb1⟩
  have H1 : Hid (Bk w w1 (w.heap.size + 1) #[.int .i64 c.letters, .int .i64 c.planes, .int .i64 c.regs, .int .i64 c.lo, .int .i64 c.hi, .int .i64 c.most, .slice s.t.a s.t.n s.t.c, .slice s.k.a s.k.n s.k.c, .slice s.i.a s.i.n s.i.c, .slice s.r.a s.r.n s.r.c]) := H0.out.next hb1
  have HSm : Hid (b = true → s.t.n ≤ 2147483647 ∧ s.k.n ≤ 2147483647 ∧ s.i.n ≤ 2147483647 ∧ s.r.n ≤ 2147483647 ∧ xn ≤ 2147483647 ∧ yn ≤ 2147483647) := hsm
  clear hb1 H0 hsm
  cases b
  · go_wp2
    go_ret
    exact ⟨rfl, H1.out.low⟩
  go_wp2_with fail
  refine (awake_calls _).mono ?_
  rintro e w2 ⟨rfl, hb2⟩
  have H2 : Hid (Bk w w2 (w.heap.size + 1) #[.int .i64 c.letters, .int .i64 c.planes, .int .i64 c.regs, .int .i64 c.lo, .int .i64 c.hi, .int .i64 c.most, .slice s.t.a s.t.n s.t.c, .slice s.k.a s.k.n s.k.c, .slice s.i.a s.i.n s.i.c, .slice s.r.a s.r.n s.r.c]) := H1.out.next hb2
  clear hb2 H1
  have c0 := H2.out.cell 0 (.int .i64 c.letters) rfl
  have c1 := H2.out.cell 1 (.int .i64 c.planes) rfl
  have c2 := H2.out.cell 2 (.int .i64 c.regs) rfl
  have c3 := H2.out.cell 3 (.int .i64 c.lo) rfl
  have c4 := H2.out.cell 4 (.int .i64 c.hi) rfl
  have c5 := H2.out.cell 5 (.int .i64 c.most) rfl
  have c6 := H2.out.cell 6 (.slice s.t.a s.t.n s.t.c) rfl
  have c7 := H2.out.cell 7 (.slice s.k.a s.k.n s.k.c) rfl
  have c8 := H2.out.cell 8 (.slice s.i.a s.i.n s.i.c) rfl
  have c9 := H2.out.cell 9 (.slice s.r.a s.r.n s.r.c) rfl
  go_wp2_with fail
  refine (run_calls c s ⟨xa, xn, xc⟩ ⟨ya, yn, yc⟩ x y _ (HC.out.1.below H2.out.low) (HC.out.2.1.below H2.out.low) (HC.out.2.2.below H2.out.low)).mono ?_
  rintro e w3 ⟨hb3, r, rfl, hr1, hr0⟩
  have H3 : Hid (Bk w w3 (w.heap.size + 1) #[.int .i64 c.letters, .int .i64 c.planes, .int .i64 c.regs, .int .i64 c.lo, .int .i64 c.hi, .int .i64 c.most, .slice s.t.a s.t.n s.t.c, .slice s.k.a s.k.n s.k.c, .slice s.i.a s.i.n s.i.c, .slice s.r.a s.r.n s.r.c]) := H2.out.next hb3
  have HLe : Hid (w.heap.size ≤ w2.heap.size) := H2.out.low.size
  have HR1 : Hid (refB (chkB c).2 c x y ≠ 0 → r = .pointer none) := hr1
  have HR0 : Hid (refB (chkB c).2 c x y = 0 → ∃ g gs sa, r = .pointer (some ⟨g, 0, none⟩) ∧ (w2.heap.size ≤ g ∧ w2.heap.size ≤ gs) ∧ Tb w3 g gs c.planes.toNat x.length y.length sa (runM c x y).slots (runM c x y).ends (runM c x y).steps ∧
      w3.ownsRow w2.heap.size 41 4 (.slice sa.a sa.n sa.c) sa.n (qdVals c.arrows) ∧ sa.n = c.arrows.length) := hr0
  clear hb3 H2 hr1 hr0
  clear c0 c1 c2 c3 c4 c5 c6 c7 c8 c9
  obtain ⟨R, hR⟩ : ∃ R, refB (chkB c).2 c x y = R := ⟨_, rfl⟩
  have HR : Hid (refB (chkB c).2 c x y = R) := hR
  rw [hR] at HR1 HR0 ⊢
  clear hR
  have c0 := H3.out.cell 0 (.int .i64 c.letters) rfl
  have c1 := H3.out.cell 1 (.int .i64 c.planes) rfl
  have c2 := H3.out.cell 2 (.int .i64 c.regs) rfl
  have c3 := H3.out.cell 3 (.int .i64 c.lo) rfl
  have c4 := H3.out.cell 4 (.int .i64 c.hi) rfl
  have c5 := H3.out.cell 5 (.int .i64 c.most) rfl
  have c6 := H3.out.cell 6 (.slice s.t.a s.t.n s.t.c) rfl
  have c7 := H3.out.cell 7 (.slice s.k.a s.k.n s.k.c) rfl
  have c8 := H3.out.cell 8 (.slice s.i.a s.i.n s.i.c) rfl
  have c9 := H3.out.cell 9 (.slice s.r.a s.r.n s.r.c) rfl
  go_wp2_with fail
  refine (dcheck_calls c s _ (HC.out.1.below H3.out.low)).mono ?_
  rintro e w4 ⟨rfl, hb4⟩
  have H4 : Hid (Bk w w4 (w.heap.size + 1) #[.int .i64 c.letters, .int .i64 c.planes, .int .i64 c.regs, .int .i64 c.lo, .int .i64 c.hi, .int .i64 c.most, .slice s.t.a s.t.n s.t.c, .slice s.k.a s.k.n s.k.c, .slice s.i.a s.i.n s.i.c, .slice s.r.a s.r.n s.r.c]) := H3.out.next hb4
  have HB4 : Hid (Below w3.heap.size w3 w4) := hb4
  clear hb4 H3
  clear c0 c1 c2 c3 c4 c5 c6 c7 c8 c9
  obtain ⟨er, her⟩ : ∃ er, (chkB c).2 = er := ⟨_, rfl⟩
  obtain ⟨at1, hat⟩ : ∃ a, (chkB c).1 = a := ⟨_, rfl⟩
  have HEr : Hid ((chkB c).2 = er) := her
  rw [her] at HR
  rw [her, hat]
  clear her hat
  by_cases h0 : er = 0
  rotate_left
  · have hd : (er != 0) = true := by simp [h0]
    have hRe : R = er := by rw [← HR.out]; unfold refB; rw [if_pos h0]
    subst hRe
    obtain rfl := HR1.out h0
    have hee : (R == R) = true := by simp
    clear h0
    go_wp2
    go_ret
    exact ⟨rfl, H4.out.low⟩
  have hd : (er != 0) = false := by simp [h0]
  have HG : Hid (Gk c) := gk_of (HEr.out.trans h0)
  have HCk : Hid ((chkB c).2 = 0) := HEr.out.trans h0
  have H5 : Hid (R = 0 ∨ R = 170 ∨ R = 11 ∨ R = 131) := by
    show _ ∨ _
    rw [← HR.out]
    unfold refB
    rw [if_neg (fun h => h h0)]
    split
    · exact Or.inr (Or.inl rfl)
    split
    · exact Or.inr (Or.inr (Or.inl rfl))
    split
    · exact Or.inr (Or.inr (Or.inr rfl))
    · exact Or.inl rfl
  by_cases hR0 : R = 0
  rotate_left
  · obtain rfl := HR1.out hR0
    have h5 := H5.out
    clear h0 H5 HR0 HR1
    by_cases h170 : R = 170
    · subst h170
      go_wp2
      go_ret
      exact ⟨rfl, H4.out.low⟩
    by_cases h11 : R = 11
    · subst h11
      go_wp2
      go_ret
      exact ⟨rfl, H4.out.low⟩
    have h131 : R = 131 := by omega
    subst h131
    go_wp2
    go_ret
    exact ⟨rfl, H4.out.low⟩
  obtain ⟨g, gs, sa, rfl, hge, hT, hO, hsn⟩ := HR0.out hR0
  have hrf := HR.out
  rw [hR0, ← HEr.out] at hrf
  have HOk : Hid (((x.length : Int) ≤ c.most ∧ (y.length : Int) ≤ c.most) ∧ (lettersB c x ∧ lettersB c y) ∧ (x.length + 1) * (y.length + 1) ≤ 1048576) := ⟨(ref_0 hrf).2.1, (ref_0 hrf).2.2.1, (ref_0 hrf).2.2.2⟩
  subst hR0
  have HXY : Hid (x.length = xn ∧ y.length = yn) := ⟨HC.out.2.1.length, HC.out.2.2.length⟩
  obtain ⟨P, hP⟩ : ∃ P : Nat, c.planes = P := ⟨c.planes.toNat, by have := HG.out.rt.planes; omega⟩
  have HP : Hid (c.planes = P ∧ P ≤ 10 ∧ c.planes.toNat = P) := ⟨hP, by have := HG.out.rt.planes; omega, by omega⟩
  clear hP HR0 HR1 H5 HR h0 hrf
  obtain ⟨M, hM⟩ : ∃ M, runM c x y = M := ⟨_, rfl⟩
  have HM : Hid (runM c x y = M) := hM
  rw [hM, HP.out.2.2, HXY.out.1, HXY.out.2] at hT
  have HT : Hid (Tb w4 g gs P xn yn sa M.slots M.ends M.steps) := hT.next HB4.out
  clear hM hT hge hO hsn HB4
  have hx20 : (xn : Int) ≤ 65536 := by have h1 := HOk.out.1.1; have h2 := HG.out.rt.most; have h3 := HXY.out.1; omega
  have hy20 : (yn : Int) ≤ 65536 := by have h1 := HOk.out.1.2; have h2 := HG.out.rt.most; have h3 := HXY.out.2; omega

  clear HSm HLe
  obtain ⟨k0, hk0⟩ : ∃ k0, n.tmod ((xn : Int) + 1) = k0 := ⟨_, rfl⟩
  obtain ⟨j0, hj0⟩ : ∃ j0, (wrap64 (n.tdiv 1024)).tmod ((yn : Int) + 1) = j0 := ⟨_, rfl⟩
  have hkb : -(xn : Int) ≤ k0 ∧ k0 ≤ xn := by
    rw [← hk0]
    have h1 := Int.tmod_lt_of_pos n (b := (xn : Int) + 1) (by omega)
    have h2 := Int.lt_tmod_of_pos n (b := (xn : Int) + 1) (by omega)
    omega
  have hjb : -(yn : Int) ≤ j0 ∧ j0 ≤ yn := by
    rw [← hj0]
    have h1 := Int.tmod_lt_of_pos (wrap64 (n.tdiv 1024)) (b := (yn : Int) + 1) (by omega)
    have h2 := Int.lt_tmod_of_pos (wrap64 (n.tdiv 1024)) (b := (yn : Int) + 1) (by omega)
    omega
  obtain ⟨kn, hkn⟩ : ∃ kn : Nat, (if k0 < 0 then k0 + xn + 1 else k0) = kn := ⟨(if k0 < 0 then k0 + xn + 1 else k0).toNat, by split <;> omega⟩
  obtain ⟨jn, hjn⟩ : ∃ jn : Nat, (if j0 < 0 then j0 + yn + 1 else j0) = jn := ⟨(if j0 < 0 then j0 + yn + 1 else j0).toNat, by split <;> omega⟩
  have HKJ : Hid (kn ≤ xn ∧ jn ≤ yn) := by
    constructor
    · split at hkn <;> omega
    · split at hjn <;> omega
  have HSl : Hid (kn ≤ xc ∧ jn ≤ yc) := ⟨Nat.le_trans HKJ.out.1 HSi.out.1, Nat.le_trans HKJ.out.2 HSi.out.2⟩
  have HLn : Hid ((x.take kn).length = kn ∧ (y.take jn).length = jn) := ⟨by rw [List.length_take, HXY.out.1]; have := HKJ.out.1; omega, by rw [List.length_take, HXY.out.2]; have := HKJ.out.2; omega⟩
  have HRf2 : Hid (refB (chkB c).2 c (x.take kn) (y.take jn) = 0) := by
    obtain ⟨q1, q2⟩ := HLn.out
    obtain ⟨q3, q4⟩ := HKJ.out
    obtain ⟨q5, q6⟩ := HXY.out
    obtain ⟨⟨q7, q8⟩, ⟨q9, q10⟩, q11⟩ := HOk.out
    refine ref_mk HCk.out ⟨by omega, by omega⟩ ⟨letters_take q9 _, letters_take q10 _⟩ ?_
    rw [q1, q2]
    rw [q5, q6] at q11
    exact Nat.le_trans (Nat.mul_le_mul (by omega) (by omega)) q11
  obtain ⟨M2, hM2⟩ : ∃ M2, runM c (x.take kn) (y.take jn) = M2 := ⟨_, rfl⟩
  have HM2 : Hid (runM c (x.take kn) (y.take jn) = M2) := hM2
  have HEq : Hid (∀ p : Nat, p < P → atB P xn yn M.slots p kn jn = atB P kn jn M2.slots p kn jn ∧ okN (atB P xn yn M.slots p kn jn)) := fun p hp => by
    have hb := begins HG.out x y HOk.out.1.1 HOk.out.1.2 (k := kn) (l := jn) (by rw [HXY.out.1]; exact HKJ.out.1) (by rw [HXY.out.2]; exact HKJ.out.2) (kn + jn) kn jn rfl (Nat.le_refl _) (Nat.le_refl _) p (by rw [HP.out.2.2]; exact hp)
    rw [HM.out, HM2.out, HP.out.2.2, HXY.out.2] at hb
    rw [atB_in hp HKJ.out.1 HKJ.out.2, atB_in hp (Nat.le_refl _) (Nat.le_refl _), hb]
    refine ⟨rfl, ?_⟩
    rw [← hb]
    have := (MOk.run HG.out x y).slots (placeB P yn p kn jn)
    rw [HM.out] at this
    exact this
  have HRu : Hid (∀ W, Below w.heap.size w W → Calls Try.prog 12 #[.agg #[.int .i64 c.letters, .int .i64 c.planes, .int .i64 c.regs, .int .i64 c.lo, .int .i64 c.hi, .int .i64 c.most, .slice s.t.a s.t.n s.t.c, .slice s.k.a s.k.n s.k.c, .slice s.i.a s.i.n s.i.c, .slice s.r.a s.r.n s.r.c], .slice xa kn xc, .slice ya jn yc] W (RunPost c (x.take kn) (y.take jn) W)) := fun W hW =>
    run_calls c s ⟨xa, kn, xc⟩ ⟨ya, jn, yc⟩ (x.take kn) (y.take jn) W (HC.out.1.below hW) ((HC.out.2.1.below hW).take HKJ.out.1) ((HC.out.2.2.below hW).take HKJ.out.2)
  have hP10 : (P : Int) ≤ 10 := by have := HP.out.2.1; omega
  clear hM2
  by_cases hks : k0 < 0
  · have hkd : decide (k0 < 0) = true := by simpa using hks
    rw [if_pos hks] at hkn
    by_cases hjs : j0 < 0
    · have hjd : decide (j0 < 0) = true := by simpa using hjs
      rw [if_pos hjs] at hjn
      go_wp2_with fail
      have HLd : Hid (Below w.heap.size w w4.drew) := H4.out.low.drew
      have HS : Hid ((fun W : World => W.cell? ⟨w.heap.size + 1, 0, none⟩ = some (.int .i64 c.letters) ∧ W.cell? ⟨w.heap.size + 1, 1, none⟩ = some (.int .i64 c.planes) ∧ W.cell? ⟨w.heap.size + 1, 2, none⟩ = some (.int .i64 c.regs) ∧ W.cell? ⟨w.heap.size + 1, 3, none⟩ = some (.int .i64 c.lo) ∧ W.cell? ⟨w.heap.size + 1, 4, none⟩ = some (.int .i64 c.hi) ∧ W.cell? ⟨w.heap.size + 1, 5, none⟩ = some (.int .i64 c.most) ∧ W.cell? ⟨w.heap.size + 1, 6, none⟩ = some (.slice s.t.a s.t.n s.t.c) ∧ W.cell? ⟨w.heap.size + 1, 7, none⟩ = some (.slice s.k.a s.k.n s.k.c) ∧ W.cell? ⟨w.heap.size + 1, 8, none⟩ = some (.slice s.i.a s.i.n s.i.c) ∧ W.cell? ⟨w.heap.size + 1, 9, none⟩ = some (.slice s.r.a s.r.n s.r.c)) w4.drew) := ⟨H4.out.cell 0 _ rfl, H4.out.cell 1 _ rfl, H4.out.cell 2 _ rfl, H4.out.cell 3 _ rfl, H4.out.cell 4 _ rfl, H4.out.cell 5 _ rfl, H4.out.cell 6 _ rfl, H4.out.cell 7 _ rfl, H4.out.cell 8 _ rfl, H4.out.cell 9 _ rfl⟩
      have s1 := run_cut22 xa xn xc kn HSl.out.1
      have s2 := run_cut22 ya yn yc jn HSl.out.2
      refine wp_region_Y (fun j => [].contains j) (fun W : World => W.cell? ⟨w.heap.size + 1, 0, none⟩ = some (.int .i64 c.letters) ∧ W.cell? ⟨w.heap.size + 1, 1, none⟩ = some (.int .i64 c.planes) ∧ W.cell? ⟨w.heap.size + 1, 2, none⟩ = some (.int .i64 c.regs) ∧ W.cell? ⟨w.heap.size + 1, 3, none⟩ = some (.int .i64 c.lo) ∧ W.cell? ⟨w.heap.size + 1, 4, none⟩ = some (.int .i64 c.hi) ∧ W.cell? ⟨w.heap.size + 1, 5, none⟩ = some (.int .i64 c.most) ∧ W.cell? ⟨w.heap.size + 1, 6, none⟩ = some (.slice s.t.a s.t.n s.t.c) ∧ W.cell? ⟨w.heap.size + 1, 7, none⟩ = some (.slice s.k.a s.k.n s.k.c) ∧ W.cell? ⟨w.heap.size + 1, 8, none⟩ = some (.slice s.i.a s.i.n s.i.c) ∧ W.cell? ⟨w.heap.size + 1, 9, none⟩ = some (.slice s.r.a s.r.n s.r.c)) (by kernel_rfl) ?_
      refine wpAnyY_takeD (i := 0) 109 (v := .agg #[.int .i64 c.letters, .int .i64 c.planes, .int .i64 c.regs, .int .i64 c.lo, .int .i64 c.hi, .int .i64 c.most, .slice s.t.a s.t.n s.t.c, .slice s.k.a s.k.n s.k.c, .slice s.i.a s.i.n s.i.c, .slice s.r.a s.r.n s.r.c]) rfl rfl (by kernel_rfl) (by kernel_rfl) (late_of (by kernel_rfl)) (by kernel_rfl) (by kernel_rfl) (fun _ _ _ h => h) HS.out (Or.inl ⟨by rfl, by (intro W hW; obtain ⟨e0, e1, e2, e3, e4, e5, e6, e7, e8, e9⟩ := hW; go_simp)⟩) ?_
      simp only [Act.put, List.setIfInBounds_toArray, List.set_cons_succ, List.set_cons_zero]
      refine wpAnyY_pure (i := 1) 110 (v := .slice xa xn xc) rfl rfl (by kernel_rfl) (by kernel_rfl) (by kernel_rfl) (fun _ _ _ h => h) (Or.inl ⟨by rfl, by (intro W _; go_simp)⟩) ?_
      simp only [Act.put, List.setIfInBounds_toArray, List.set_cons_succ, List.set_cons_zero]
      refine wpAnyY_pure (i := 2) 111 (v := .int .i64 (kn : Int)) rfl rfl (by kernel_rfl) (by kernel_rfl) (by kernel_rfl) (fun _ _ _ h => h) (Or.inl ⟨by rfl, by (intro W _; go_simp)⟩) ?_
      simp only [Act.put, List.setIfInBounds_toArray, List.set_cons_succ, List.set_cons_zero]
      refine wpAnyY_pure (i := 3) 112 (v := .slice xa kn xc) rfl rfl (by kernel_rfl) (by kernel_rfl) (by kernel_rfl) (fun _ _ _ h => h) (Or.inl ⟨by rfl, by (intro W _; go_simp)⟩) ?_
      simp only [Act.put, List.setIfInBounds_toArray, List.set_cons_succ, List.set_cons_zero]
      refine wpAnyY_pure (i := 4) 113 (v := .slice ya yn yc) rfl rfl (by kernel_rfl) (by kernel_rfl) (by kernel_rfl) (fun _ _ _ h => h) (Or.inl ⟨by rfl, by (intro W _; go_simp)⟩) ?_
      simp only [Act.put, List.setIfInBounds_toArray, List.set_cons_succ, List.set_cons_zero]
      refine wpAnyY_pure (i := 5) 114 (v := .int .i64 (jn : Int)) rfl rfl (by kernel_rfl) (by kernel_rfl) (by kernel_rfl) (fun _ _ _ h => h) (Or.inl ⟨by rfl, by (intro W _; go_simp)⟩) ?_
      simp only [Act.put, List.setIfInBounds_toArray, List.set_cons_succ, List.set_cons_zero]
      refine wpAnyY_pure (i := 6) 115 (v := .slice ya jn yc) rfl rfl (by kernel_rfl) (by kernel_rfl) (by kernel_rfl) (fun _ _ _ h => h) (Or.inl ⟨by rfl, by (intro W _; go_simp)⟩) ?_
      simp only [Act.put, List.setIfInBounds_toArray, List.set_cons_succ, List.set_cons_zero]
      refine wpAnyY_one (i := 7) rfl (by kernel_rfl) (fun Kc hKc => ?_)
      refine step_fnD 116 rfl (by rfl) 12 _ _ rfl Try.f12 Try.func12 (by kernel_rfl) (by kernel_rfl) #[.agg #[.int .i64 c.letters, .int .i64 c.planes, .int .i64 c.regs, .int .i64 c.lo, .int .i64 c.hi, .int .i64 c.most, .slice s.t.a s.t.n s.t.c, .slice s.k.a s.k.n s.k.c, .slice s.i.a s.i.n s.i.c, .slice s.r.a s.r.n s.r.c], .slice xa kn xc, .slice ya jn yc] (by simp [Act.eval]) (HRu.out _ HLd.out) ?_
      rintro e w6 ⟨hb6, r2, rfl, _, hr20⟩
      obtain ⟨g2, gs2, sa2, rfl, hge2, hT2, _⟩ := hr20 HRf2.out
      rw [HRf2.out]
      refine ⟨_, rfl, hKc.out _ _ (fun _ h => ⟨cell_bl hb6 h.1, cell_bl hb6 h.2.1, cell_bl hb6 h.2.2.1, cell_bl hb6 h.2.2.2.1, cell_bl hb6 h.2.2.2.2.1, cell_bl hb6 h.2.2.2.2.2.1, cell_bl hb6 h.2.2.2.2.2.2.1, cell_bl hb6 h.2.2.2.2.2.2.2.1, cell_bl hb6 h.2.2.2.2.2.2.2.2.1, cell_bl hb6 h.2.2.2.2.2.2.2.2.2⟩) ?_⟩
      clear hKc Kc
      simp only [Act.put, List.setIfInBounds_toArray, List.set_cons_succ, List.set_cons_zero]
      refine wpAnyY_pure (i := 8) 108 (v := .tuple #[.pointer (some ⟨g2, 0, none⟩), .int .i64 0]) rfl rfl (by kernel_rfl) (by kernel_rfl) (by kernel_rfl) (fun _ _ _ h => h) (Or.inl ⟨by rfl, by (intro W _; go_simp)⟩) ?_
      simp only [Act.put, List.setIfInBounds_toArray, List.set_cons_succ, List.set_cons_zero]
      refine wpAnyY_pure (i := 9) 117 (v := .pointer (some ⟨g2, 0, none⟩)) rfl rfl (by kernel_rfl) (by kernel_rfl) (by kernel_rfl) (fun _ _ _ h => h) (Or.inl ⟨by rfl, by (intro W _; go_simp)⟩) ?_
      simp only [Act.put, List.setIfInBounds_toArray, List.set_cons_succ, List.set_cons_zero]
      refine wpAnyY_pure (i := 10) 118 (v := .int .i64 0) rfl rfl (by kernel_rfl) (by kernel_rfl) (by kernel_rfl) (fun _ _ _ h => h) (Or.inl ⟨by rfl, by (intro W _; go_simp)⟩) ?_
      simp only [Act.put, List.setIfInBounds_toArray, List.set_cons_succ, List.set_cons_zero]
      refine wpAnyY_pure (i := 11) 14 (v := .pointer (some ⟨g2, 0, none⟩)) rfl rfl (by kernel_rfl) (by kernel_rfl) (by kernel_rfl) (fun _ _ _ h => h) (Or.inl ⟨by rfl, by (intro W _; go_simp)⟩) ?_
      simp only [Act.put, List.setIfInBounds_toArray, List.set_cons_succ, List.set_cons_zero]
      refine wpAnyY_pure (i := 12) 15 (v := .int .i64 0) rfl rfl (by kernel_rfl) (by kernel_rfl) (by kernel_rfl) (fun _ _ _ h => h) (Or.inl ⟨by rfl, by (intro W _; go_simp)⟩) ?_
      simp only [Act.put, List.setIfInBounds_toArray, List.set_cons_succ, List.set_cons_zero]
      refine wpAnyY_done (by kernel_rfl) ?_ _
      have HK6 : Hid (Bk w w6 (w.heap.size + 1) #[.int .i64 c.letters, .int .i64 c.planes, .int .i64 c.regs, .int .i64 c.lo, .int .i64 c.hi, .int .i64 c.most, .slice s.t.a s.t.n s.t.c, .slice s.k.a s.k.n s.k.c, .slice s.i.a s.i.n s.i.c, .slice s.r.a s.r.n s.r.c] ∧ Tb w6 g gs P xn yn sa M.slots M.ends M.steps ∧ Tb w6 g2 gs2 P kn jn sa2 M2.slots M2.ends M2.steps) := by
        have h7 : Below w4.heap.size w4 w6 := ((Below.refl _ _).drew).trans hb6
        refine ⟨H4.out.next h7, HT.out.next h7, ?_⟩
        have := hT2
        rw [HM2.out, HP.out.2.2, HLn.out.1, HLn.out.2] at this
        exact this
      clear hb6 hge2 hT2 hr20 HLd HS H4 HT s1 s2
      go_wp2
      go_loopg [16] P (fun q pv wr => ∃ p : Nat, p + q = P ∧ pv = .int .i64 p ∧ Hid (Bk w wr (w.heap.size + 1) #[.int .i64 c.letters, .int .i64 c.planes, .int .i64 c.regs, .int .i64 c.lo, .int .i64 c.hi, .int .i64 c.most, .slice s.t.a s.t.n s.t.c, .slice s.k.a s.k.n s.k.c, .slice s.i.a s.i.n s.i.c, .slice s.r.a s.r.n s.r.c] ∧ Tb wr g gs P xn yn sa M.slots M.ends M.steps ∧ Tb wr g2 gs2 P kn jn sa2 M2.slots M2.ends M2.steps))
      case atStart => exact ⟨0, by omega, rfl, HK6.out⟩
      case round =>
        clear HK6
        obtain ⟨p, hpq, rfl, HK⟩ := hrel
        have c1 := HK.out.1.cell 1 (.int .i64 c.planes) rfl
        rw [HP.out.1] at c1
        by_cases hp : p < P
        · have hd9 : decide ((p : Int) < (P : Int)) = true := by simp; omega
          have HV : Hid (atB P xn yn M.slots p kn jn = atB P kn jn M2.slots p kn jn ∧ okN (atB P xn yn M.slots p kn jn)) := HEq.out p hp
          go_wp2_with fail
          refine (value_calls HK.out.2.1 p kn jn).mono ?_
          rintro e w7 ⟨rfl, hb7⟩
          have HK7 : Hid (Bk w w7 (w.heap.size + 1) #[.int .i64 c.letters, .int .i64 c.planes, .int .i64 c.regs, .int .i64 c.lo, .int .i64 c.hi, .int .i64 c.most, .slice s.t.a s.t.n s.t.c, .slice s.k.a s.k.n s.k.c, .slice s.i.a s.i.n s.i.c, .slice s.r.a s.r.n s.r.c] ∧ Tb w7 g gs P xn yn sa M.slots M.ends M.steps ∧ Tb w7 g2 gs2 P kn jn sa2 M2.slots M2.ends M2.steps) := ⟨HK.out.1.next hb7, HK.out.2.1.next hb7, HK.out.2.2.next hb7⟩
          clear hb7 HK c1
          go_wp2_with fail
          refine (value_calls HK7.out.2.2 p kn jn).mono ?_
          rintro e w8 ⟨rfl, hb8⟩
          rw [← HV.out.1]
          have HK8 : Hid (Bk w w8 (w.heap.size + 1) #[.int .i64 c.letters, .int .i64 c.planes, .int .i64 c.regs, .int .i64 c.lo, .int .i64 c.hi, .int .i64 c.most, .slice s.t.a s.t.n s.t.c, .slice s.k.a s.k.n s.k.c, .slice s.i.a s.i.n s.i.c, .slice s.r.a s.r.n s.r.c] ∧ Tb w8 g gs P xn yn sa M.slots M.ends M.steps ∧ Tb w8 g2 gs2 P kn jn sa2 M2.slots M2.ends M2.steps) := ⟨HK7.out.1.next hb8, HK7.out.2.1.next hb8, HK7.out.2.2.next hb8⟩
          clear hb8 HK7
          go_wp2_with fail
          refine (mask_calls HK8.out.2.1 p kn jn HV.out.2).mono ?_
          rintro e w9 ⟨rfl, hb9⟩
          have HK9 : Hid (Bk w w9 (w.heap.size + 1) #[.int .i64 c.letters, .int .i64 c.planes, .int .i64 c.regs, .int .i64 c.lo, .int .i64 c.hi, .int .i64 c.most, .slice s.t.a s.t.n s.t.c, .slice s.k.a s.k.n s.k.c, .slice s.i.a s.i.n s.i.c, .slice s.r.a s.r.n s.r.c] ∧ Tb w9 g gs P xn yn sa M.slots M.ends M.steps ∧ Tb w9 g2 gs2 P kn jn sa2 M2.slots M2.ends M2.steps) := ⟨HK8.out.1.next hb9, HK8.out.2.1.next hb9, HK8.out.2.2.next hb9⟩
          clear hb9 HK8
          go_wp2_with fail
          refine (mask_calls HK9.out.2.2 p kn jn (by rw [← HV.out.1]; exact HV.out.2)).mono ?_
          rintro e w10 ⟨rfl, hb10⟩
          rw [← HV.out.1]
          have HK10 : Hid (Bk w w10 (w.heap.size + 1) #[.int .i64 c.letters, .int .i64 c.planes, .int .i64 c.regs, .int .i64 c.lo, .int .i64 c.hi, .int .i64 c.most, .slice s.t.a s.t.n s.t.c, .slice s.k.a s.k.n s.k.c, .slice s.i.a s.i.n s.i.c, .slice s.r.a s.r.n s.r.c] ∧ Tb w10 g gs P xn yn sa M.slots M.ends M.steps ∧ Tb w10 g2 gs2 P kn jn sa2 M2.slots M2.ends M2.steps) := ⟨HK9.out.1.next hb10, HK9.out.2.1.next hb10, HK9.out.2.2.next hb10⟩
          clear hb10 HK9
          generalize atB P xn yn M.slots p kn jn = V at *
          clear HV
          obtain ⟨vh, vm, vn⟩ := V
          have hv1 : (vn != vn) = false := by simp
          have hv2 : (vm != vm) = false := by simp
          go_wp2
          go_roundg (gk - 1)
          case rel => exact ⟨p + 1, by omega, by go_num, HK10⟩
          case measure => omega
        · have hd9 : decide ((p : Int) < (P : Int)) = false := by simp; omega
          go_wp2
          go_ret
          exact ⟨rfl, HK.out.1.low⟩
    · have hjd : decide (j0 < 0) = false := by simpa using hjs
      rw [if_neg hjs] at hjn
      subst hjn
      go_wp2_with fail
      have HLd : Hid (Below w.heap.size w w4.drew) := H4.out.low.drew
      have HS : Hid ((fun W : World => W.cell? ⟨w.heap.size + 1, 0, none⟩ = some (.int .i64 c.letters) ∧ W.cell? ⟨w.heap.size + 1, 1, none⟩ = some (.int .i64 c.planes) ∧ W.cell? ⟨w.heap.size + 1, 2, none⟩ = some (.int .i64 c.regs) ∧ W.cell? ⟨w.heap.size + 1, 3, none⟩ = some (.int .i64 c.lo) ∧ W.cell? ⟨w.heap.size + 1, 4, none⟩ = some (.int .i64 c.hi) ∧ W.cell? ⟨w.heap.size + 1, 5, none⟩ = some (.int .i64 c.most) ∧ W.cell? ⟨w.heap.size + 1, 6, none⟩ = some (.slice s.t.a s.t.n s.t.c) ∧ W.cell? ⟨w.heap.size + 1, 7, none⟩ = some (.slice s.k.a s.k.n s.k.c) ∧ W.cell? ⟨w.heap.size + 1, 8, none⟩ = some (.slice s.i.a s.i.n s.i.c) ∧ W.cell? ⟨w.heap.size + 1, 9, none⟩ = some (.slice s.r.a s.r.n s.r.c)) w4.drew) := ⟨H4.out.cell 0 _ rfl, H4.out.cell 1 _ rfl, H4.out.cell 2 _ rfl, H4.out.cell 3 _ rfl, H4.out.cell 4 _ rfl, H4.out.cell 5 _ rfl, H4.out.cell 6 _ rfl, H4.out.cell 7 _ rfl, H4.out.cell 8 _ rfl, H4.out.cell 9 _ rfl⟩
      have s1 := run_cut22 xa xn xc kn HSl.out.1
      have s2 := run_cut22 ya yn yc jn HSl.out.2
      refine wp_region_Y (fun j => [].contains j) (fun W : World => W.cell? ⟨w.heap.size + 1, 0, none⟩ = some (.int .i64 c.letters) ∧ W.cell? ⟨w.heap.size + 1, 1, none⟩ = some (.int .i64 c.planes) ∧ W.cell? ⟨w.heap.size + 1, 2, none⟩ = some (.int .i64 c.regs) ∧ W.cell? ⟨w.heap.size + 1, 3, none⟩ = some (.int .i64 c.lo) ∧ W.cell? ⟨w.heap.size + 1, 4, none⟩ = some (.int .i64 c.hi) ∧ W.cell? ⟨w.heap.size + 1, 5, none⟩ = some (.int .i64 c.most) ∧ W.cell? ⟨w.heap.size + 1, 6, none⟩ = some (.slice s.t.a s.t.n s.t.c) ∧ W.cell? ⟨w.heap.size + 1, 7, none⟩ = some (.slice s.k.a s.k.n s.k.c) ∧ W.cell? ⟨w.heap.size + 1, 8, none⟩ = some (.slice s.i.a s.i.n s.i.c) ∧ W.cell? ⟨w.heap.size + 1, 9, none⟩ = some (.slice s.r.a s.r.n s.r.c)) (by kernel_rfl) ?_
      refine wpAnyY_takeD (i := 0) 109 (v := .agg #[.int .i64 c.letters, .int .i64 c.planes, .int .i64 c.regs, .int .i64 c.lo, .int .i64 c.hi, .int .i64 c.most, .slice s.t.a s.t.n s.t.c, .slice s.k.a s.k.n s.k.c, .slice s.i.a s.i.n s.i.c, .slice s.r.a s.r.n s.r.c]) rfl rfl (by kernel_rfl) (by kernel_rfl) (late_of (by kernel_rfl)) (by kernel_rfl) (by kernel_rfl) (fun _ _ _ h => h) HS.out (Or.inl ⟨by rfl, by (intro W hW; obtain ⟨e0, e1, e2, e3, e4, e5, e6, e7, e8, e9⟩ := hW; go_simp)⟩) ?_
      simp only [Act.put, List.setIfInBounds_toArray, List.set_cons_succ, List.set_cons_zero]
      refine wpAnyY_pure (i := 1) 110 (v := .slice xa xn xc) rfl rfl (by kernel_rfl) (by kernel_rfl) (by kernel_rfl) (fun _ _ _ h => h) (Or.inl ⟨by rfl, by (intro W _; go_simp)⟩) ?_
      simp only [Act.put, List.setIfInBounds_toArray, List.set_cons_succ, List.set_cons_zero]
      refine wpAnyY_pure (i := 2) 111 (v := .int .i64 (kn : Int)) rfl rfl (by kernel_rfl) (by kernel_rfl) (by kernel_rfl) (fun _ _ _ h => h) (Or.inl ⟨by rfl, by (intro W _; go_simp)⟩) ?_
      simp only [Act.put, List.setIfInBounds_toArray, List.set_cons_succ, List.set_cons_zero]
      refine wpAnyY_pure (i := 3) 112 (v := .slice xa kn xc) rfl rfl (by kernel_rfl) (by kernel_rfl) (by kernel_rfl) (fun _ _ _ h => h) (Or.inl ⟨by rfl, by (intro W _; go_simp)⟩) ?_
      simp only [Act.put, List.setIfInBounds_toArray, List.set_cons_succ, List.set_cons_zero]
      refine wpAnyY_pure (i := 4) 113 (v := .slice ya yn yc) rfl rfl (by kernel_rfl) (by kernel_rfl) (by kernel_rfl) (fun _ _ _ h => h) (Or.inl ⟨by rfl, by (intro W _; go_simp)⟩) ?_
      simp only [Act.put, List.setIfInBounds_toArray, List.set_cons_succ, List.set_cons_zero]
      refine wpAnyY_pure (i := 5) 114 (v := .int .i64 (jn : Int)) rfl rfl (by kernel_rfl) (by kernel_rfl) (by kernel_rfl) (fun _ _ _ h => h) (Or.inl ⟨by rfl, by (intro W _; go_simp)⟩) ?_
      simp only [Act.put, List.setIfInBounds_toArray, List.set_cons_succ, List.set_cons_zero]
      refine wpAnyY_pure (i := 6) 115 (v := .slice ya jn yc) rfl rfl (by kernel_rfl) (by kernel_rfl) (by kernel_rfl) (fun _ _ _ h => h) (Or.inl ⟨by rfl, by (intro W _; go_simp)⟩) ?_
      simp only [Act.put, List.setIfInBounds_toArray, List.set_cons_succ, List.set_cons_zero]
      refine wpAnyY_one (i := 7) rfl (by kernel_rfl) (fun Kc hKc => ?_)
      refine step_fnD 116 rfl (by rfl) 12 _ _ rfl Try.f12 Try.func12 (by kernel_rfl) (by kernel_rfl) #[.agg #[.int .i64 c.letters, .int .i64 c.planes, .int .i64 c.regs, .int .i64 c.lo, .int .i64 c.hi, .int .i64 c.most, .slice s.t.a s.t.n s.t.c, .slice s.k.a s.k.n s.k.c, .slice s.i.a s.i.n s.i.c, .slice s.r.a s.r.n s.r.c], .slice xa kn xc, .slice ya jn yc] (by simp [Act.eval]) (HRu.out _ HLd.out) ?_
      rintro e w6 ⟨hb6, r2, rfl, _, hr20⟩
      obtain ⟨g2, gs2, sa2, rfl, hge2, hT2, _⟩ := hr20 HRf2.out
      rw [HRf2.out]
      refine ⟨_, rfl, hKc.out _ _ (fun _ h => ⟨cell_bl hb6 h.1, cell_bl hb6 h.2.1, cell_bl hb6 h.2.2.1, cell_bl hb6 h.2.2.2.1, cell_bl hb6 h.2.2.2.2.1, cell_bl hb6 h.2.2.2.2.2.1, cell_bl hb6 h.2.2.2.2.2.2.1, cell_bl hb6 h.2.2.2.2.2.2.2.1, cell_bl hb6 h.2.2.2.2.2.2.2.2.1, cell_bl hb6 h.2.2.2.2.2.2.2.2.2⟩) ?_⟩
      clear hKc Kc
      simp only [Act.put, List.setIfInBounds_toArray, List.set_cons_succ, List.set_cons_zero]
      refine wpAnyY_pure (i := 8) 108 (v := .tuple #[.pointer (some ⟨g2, 0, none⟩), .int .i64 0]) rfl rfl (by kernel_rfl) (by kernel_rfl) (by kernel_rfl) (fun _ _ _ h => h) (Or.inl ⟨by rfl, by (intro W _; go_simp)⟩) ?_
      simp only [Act.put, List.setIfInBounds_toArray, List.set_cons_succ, List.set_cons_zero]
      refine wpAnyY_pure (i := 9) 117 (v := .pointer (some ⟨g2, 0, none⟩)) rfl rfl (by kernel_rfl) (by kernel_rfl) (by kernel_rfl) (fun _ _ _ h => h) (Or.inl ⟨by rfl, by (intro W _; go_simp)⟩) ?_
      simp only [Act.put, List.setIfInBounds_toArray, List.set_cons_succ, List.set_cons_zero]
      refine wpAnyY_pure (i := 10) 118 (v := .int .i64 0) rfl rfl (by kernel_rfl) (by kernel_rfl) (by kernel_rfl) (fun _ _ _ h => h) (Or.inl ⟨by rfl, by (intro W _; go_simp)⟩) ?_
      simp only [Act.put, List.setIfInBounds_toArray, List.set_cons_succ, List.set_cons_zero]
      refine wpAnyY_pure (i := 11) 14 (v := .pointer (some ⟨g2, 0, none⟩)) rfl rfl (by kernel_rfl) (by kernel_rfl) (by kernel_rfl) (fun _ _ _ h => h) (Or.inl ⟨by rfl, by (intro W _; go_simp)⟩) ?_
      simp only [Act.put, List.setIfInBounds_toArray, List.set_cons_succ, List.set_cons_zero]
      refine wpAnyY_pure (i := 12) 15 (v := .int .i64 0) rfl rfl (by kernel_rfl) (by kernel_rfl) (by kernel_rfl) (fun _ _ _ h => h) (Or.inl ⟨by rfl, by (intro W _; go_simp)⟩) ?_
      simp only [Act.put, List.setIfInBounds_toArray, List.set_cons_succ, List.set_cons_zero]
      refine wpAnyY_done (by kernel_rfl) ?_ _
      have HK6 : Hid (Bk w w6 (w.heap.size + 1) #[.int .i64 c.letters, .int .i64 c.planes, .int .i64 c.regs, .int .i64 c.lo, .int .i64 c.hi, .int .i64 c.most, .slice s.t.a s.t.n s.t.c, .slice s.k.a s.k.n s.k.c, .slice s.i.a s.i.n s.i.c, .slice s.r.a s.r.n s.r.c] ∧ Tb w6 g gs P xn yn sa M.slots M.ends M.steps ∧ Tb w6 g2 gs2 P kn jn sa2 M2.slots M2.ends M2.steps) := by
        have h7 : Below w4.heap.size w4 w6 := ((Below.refl _ _).drew).trans hb6
        refine ⟨H4.out.next h7, HT.out.next h7, ?_⟩
        have := hT2
        rw [HM2.out, HP.out.2.2, HLn.out.1, HLn.out.2] at this
        exact this
      clear hb6 hge2 hT2 hr20 HLd HS H4 HT s1 s2
      go_wp2
      go_loopg [16] P (fun q pv wr => ∃ p : Nat, p + q = P ∧ pv = .int .i64 p ∧ Hid (Bk w wr (w.heap.size + 1) #[.int .i64 c.letters, .int .i64 c.planes, .int .i64 c.regs, .int .i64 c.lo, .int .i64 c.hi, .int .i64 c.most, .slice s.t.a s.t.n s.t.c, .slice s.k.a s.k.n s.k.c, .slice s.i.a s.i.n s.i.c, .slice s.r.a s.r.n s.r.c] ∧ Tb wr g gs P xn yn sa M.slots M.ends M.steps ∧ Tb wr g2 gs2 P kn jn sa2 M2.slots M2.ends M2.steps))
      case atStart => exact ⟨0, by omega, rfl, HK6.out⟩
      case round =>
        clear HK6
        obtain ⟨p, hpq, rfl, HK⟩ := hrel
        have c1 := HK.out.1.cell 1 (.int .i64 c.planes) rfl
        rw [HP.out.1] at c1
        by_cases hp : p < P
        · have hd9 : decide ((p : Int) < (P : Int)) = true := by simp; omega
          have HV : Hid (atB P xn yn M.slots p kn jn = atB P kn jn M2.slots p kn jn ∧ okN (atB P xn yn M.slots p kn jn)) := HEq.out p hp
          go_wp2_with fail
          refine (value_calls HK.out.2.1 p kn jn).mono ?_
          rintro e w7 ⟨rfl, hb7⟩
          have HK7 : Hid (Bk w w7 (w.heap.size + 1) #[.int .i64 c.letters, .int .i64 c.planes, .int .i64 c.regs, .int .i64 c.lo, .int .i64 c.hi, .int .i64 c.most, .slice s.t.a s.t.n s.t.c, .slice s.k.a s.k.n s.k.c, .slice s.i.a s.i.n s.i.c, .slice s.r.a s.r.n s.r.c] ∧ Tb w7 g gs P xn yn sa M.slots M.ends M.steps ∧ Tb w7 g2 gs2 P kn jn sa2 M2.slots M2.ends M2.steps) := ⟨HK.out.1.next hb7, HK.out.2.1.next hb7, HK.out.2.2.next hb7⟩
          clear hb7 HK c1
          go_wp2_with fail
          refine (value_calls HK7.out.2.2 p kn jn).mono ?_
          rintro e w8 ⟨rfl, hb8⟩
          rw [← HV.out.1]
          have HK8 : Hid (Bk w w8 (w.heap.size + 1) #[.int .i64 c.letters, .int .i64 c.planes, .int .i64 c.regs, .int .i64 c.lo, .int .i64 c.hi, .int .i64 c.most, .slice s.t.a s.t.n s.t.c, .slice s.k.a s.k.n s.k.c, .slice s.i.a s.i.n s.i.c, .slice s.r.a s.r.n s.r.c] ∧ Tb w8 g gs P xn yn sa M.slots M.ends M.steps ∧ Tb w8 g2 gs2 P kn jn sa2 M2.slots M2.ends M2.steps) := ⟨HK7.out.1.next hb8, HK7.out.2.1.next hb8, HK7.out.2.2.next hb8⟩
          clear hb8 HK7
          go_wp2_with fail
          refine (mask_calls HK8.out.2.1 p kn jn HV.out.2).mono ?_
          rintro e w9 ⟨rfl, hb9⟩
          have HK9 : Hid (Bk w w9 (w.heap.size + 1) #[.int .i64 c.letters, .int .i64 c.planes, .int .i64 c.regs, .int .i64 c.lo, .int .i64 c.hi, .int .i64 c.most, .slice s.t.a s.t.n s.t.c, .slice s.k.a s.k.n s.k.c, .slice s.i.a s.i.n s.i.c, .slice s.r.a s.r.n s.r.c] ∧ Tb w9 g gs P xn yn sa M.slots M.ends M.steps ∧ Tb w9 g2 gs2 P kn jn sa2 M2.slots M2.ends M2.steps) := ⟨HK8.out.1.next hb9, HK8.out.2.1.next hb9, HK8.out.2.2.next hb9⟩
          clear hb9 HK8
          go_wp2_with fail
          refine (mask_calls HK9.out.2.2 p kn jn (by rw [← HV.out.1]; exact HV.out.2)).mono ?_
          rintro e w10 ⟨rfl, hb10⟩
          rw [← HV.out.1]
          have HK10 : Hid (Bk w w10 (w.heap.size + 1) #[.int .i64 c.letters, .int .i64 c.planes, .int .i64 c.regs, .int .i64 c.lo, .int .i64 c.hi, .int .i64 c.most, .slice s.t.a s.t.n s.t.c, .slice s.k.a s.k.n s.k.c, .slice s.i.a s.i.n s.i.c, .slice s.r.a s.r.n s.r.c] ∧ Tb w10 g gs P xn yn sa M.slots M.ends M.steps ∧ Tb w10 g2 gs2 P kn jn sa2 M2.slots M2.ends M2.steps) := ⟨HK9.out.1.next hb10, HK9.out.2.1.next hb10, HK9.out.2.2.next hb10⟩
          clear hb10 HK9
          generalize atB P xn yn M.slots p kn jn = V at *
          clear HV
          obtain ⟨vh, vm, vn⟩ := V
          have hv1 : (vn != vn) = false := by simp
          have hv2 : (vm != vm) = false := by simp
          go_wp2
          go_roundg (gk - 1)
          case rel => exact ⟨p + 1, by omega, by go_num, HK10⟩
          case measure => omega
        · have hd9 : decide ((p : Int) < (P : Int)) = false := by simp; omega
          go_wp2
          go_ret
          exact ⟨rfl, HK.out.1.low⟩
  · have hkd : decide (k0 < 0) = false := by simpa using hks
    rw [if_neg hks] at hkn
    subst hkn
    by_cases hjs : j0 < 0
    · have hjd : decide (j0 < 0) = true := by simpa using hjs
      rw [if_pos hjs] at hjn
      go_wp2_with fail
      have HLd : Hid (Below w.heap.size w w4.drew) := H4.out.low.drew
      have HS : Hid ((fun W : World => W.cell? ⟨w.heap.size + 1, 0, none⟩ = some (.int .i64 c.letters) ∧ W.cell? ⟨w.heap.size + 1, 1, none⟩ = some (.int .i64 c.planes) ∧ W.cell? ⟨w.heap.size + 1, 2, none⟩ = some (.int .i64 c.regs) ∧ W.cell? ⟨w.heap.size + 1, 3, none⟩ = some (.int .i64 c.lo) ∧ W.cell? ⟨w.heap.size + 1, 4, none⟩ = some (.int .i64 c.hi) ∧ W.cell? ⟨w.heap.size + 1, 5, none⟩ = some (.int .i64 c.most) ∧ W.cell? ⟨w.heap.size + 1, 6, none⟩ = some (.slice s.t.a s.t.n s.t.c) ∧ W.cell? ⟨w.heap.size + 1, 7, none⟩ = some (.slice s.k.a s.k.n s.k.c) ∧ W.cell? ⟨w.heap.size + 1, 8, none⟩ = some (.slice s.i.a s.i.n s.i.c) ∧ W.cell? ⟨w.heap.size + 1, 9, none⟩ = some (.slice s.r.a s.r.n s.r.c)) w4.drew) := ⟨H4.out.cell 0 _ rfl, H4.out.cell 1 _ rfl, H4.out.cell 2 _ rfl, H4.out.cell 3 _ rfl, H4.out.cell 4 _ rfl, H4.out.cell 5 _ rfl, H4.out.cell 6 _ rfl, H4.out.cell 7 _ rfl, H4.out.cell 8 _ rfl, H4.out.cell 9 _ rfl⟩
      have s1 := run_cut22 xa xn xc kn HSl.out.1
      have s2 := run_cut22 ya yn yc jn HSl.out.2
      refine wp_region_Y (fun j => [].contains j) (fun W : World => W.cell? ⟨w.heap.size + 1, 0, none⟩ = some (.int .i64 c.letters) ∧ W.cell? ⟨w.heap.size + 1, 1, none⟩ = some (.int .i64 c.planes) ∧ W.cell? ⟨w.heap.size + 1, 2, none⟩ = some (.int .i64 c.regs) ∧ W.cell? ⟨w.heap.size + 1, 3, none⟩ = some (.int .i64 c.lo) ∧ W.cell? ⟨w.heap.size + 1, 4, none⟩ = some (.int .i64 c.hi) ∧ W.cell? ⟨w.heap.size + 1, 5, none⟩ = some (.int .i64 c.most) ∧ W.cell? ⟨w.heap.size + 1, 6, none⟩ = some (.slice s.t.a s.t.n s.t.c) ∧ W.cell? ⟨w.heap.size + 1, 7, none⟩ = some (.slice s.k.a s.k.n s.k.c) ∧ W.cell? ⟨w.heap.size + 1, 8, none⟩ = some (.slice s.i.a s.i.n s.i.c) ∧ W.cell? ⟨w.heap.size + 1, 9, none⟩ = some (.slice s.r.a s.r.n s.r.c)) (by kernel_rfl) ?_
      refine wpAnyY_takeD (i := 0) 109 (v := .agg #[.int .i64 c.letters, .int .i64 c.planes, .int .i64 c.regs, .int .i64 c.lo, .int .i64 c.hi, .int .i64 c.most, .slice s.t.a s.t.n s.t.c, .slice s.k.a s.k.n s.k.c, .slice s.i.a s.i.n s.i.c, .slice s.r.a s.r.n s.r.c]) rfl rfl (by kernel_rfl) (by kernel_rfl) (late_of (by kernel_rfl)) (by kernel_rfl) (by kernel_rfl) (fun _ _ _ h => h) HS.out (Or.inl ⟨by rfl, by (intro W hW; obtain ⟨e0, e1, e2, e3, e4, e5, e6, e7, e8, e9⟩ := hW; go_simp)⟩) ?_
      simp only [Act.put, List.setIfInBounds_toArray, List.set_cons_succ, List.set_cons_zero]
      refine wpAnyY_pure (i := 1) 110 (v := .slice xa xn xc) rfl rfl (by kernel_rfl) (by kernel_rfl) (by kernel_rfl) (fun _ _ _ h => h) (Or.inl ⟨by rfl, by (intro W _; go_simp)⟩) ?_
      simp only [Act.put, List.setIfInBounds_toArray, List.set_cons_succ, List.set_cons_zero]
      refine wpAnyY_pure (i := 2) 111 (v := .int .i64 (kn : Int)) rfl rfl (by kernel_rfl) (by kernel_rfl) (by kernel_rfl) (fun _ _ _ h => h) (Or.inl ⟨by rfl, by (intro W _; go_simp)⟩) ?_
      simp only [Act.put, List.setIfInBounds_toArray, List.set_cons_succ, List.set_cons_zero]
      refine wpAnyY_pure (i := 3) 112 (v := .slice xa kn xc) rfl rfl (by kernel_rfl) (by kernel_rfl) (by kernel_rfl) (fun _ _ _ h => h) (Or.inl ⟨by rfl, by (intro W _; go_simp)⟩) ?_
      simp only [Act.put, List.setIfInBounds_toArray, List.set_cons_succ, List.set_cons_zero]
      refine wpAnyY_pure (i := 4) 113 (v := .slice ya yn yc) rfl rfl (by kernel_rfl) (by kernel_rfl) (by kernel_rfl) (fun _ _ _ h => h) (Or.inl ⟨by rfl, by (intro W _; go_simp)⟩) ?_
      simp only [Act.put, List.setIfInBounds_toArray, List.set_cons_succ, List.set_cons_zero]
      refine wpAnyY_pure (i := 5) 114 (v := .int .i64 (jn : Int)) rfl rfl (by kernel_rfl) (by kernel_rfl) (by kernel_rfl) (fun _ _ _ h => h) (Or.inl ⟨by rfl, by (intro W _; go_simp)⟩) ?_
      simp only [Act.put, List.setIfInBounds_toArray, List.set_cons_succ, List.set_cons_zero]
      refine wpAnyY_pure (i := 6) 115 (v := .slice ya jn yc) rfl rfl (by kernel_rfl) (by kernel_rfl) (by kernel_rfl) (fun _ _ _ h => h) (Or.inl ⟨by rfl, by (intro W _; go_simp)⟩) ?_
      simp only [Act.put, List.setIfInBounds_toArray, List.set_cons_succ, List.set_cons_zero]
      refine wpAnyY_one (i := 7) rfl (by kernel_rfl) (fun Kc hKc => ?_)
      refine step_fnD 116 rfl (by rfl) 12 _ _ rfl Try.f12 Try.func12 (by kernel_rfl) (by kernel_rfl) #[.agg #[.int .i64 c.letters, .int .i64 c.planes, .int .i64 c.regs, .int .i64 c.lo, .int .i64 c.hi, .int .i64 c.most, .slice s.t.a s.t.n s.t.c, .slice s.k.a s.k.n s.k.c, .slice s.i.a s.i.n s.i.c, .slice s.r.a s.r.n s.r.c], .slice xa kn xc, .slice ya jn yc] (by simp [Act.eval]) (HRu.out _ HLd.out) ?_
      rintro e w6 ⟨hb6, r2, rfl, _, hr20⟩
      obtain ⟨g2, gs2, sa2, rfl, hge2, hT2, _⟩ := hr20 HRf2.out
      rw [HRf2.out]
      refine ⟨_, rfl, hKc.out _ _ (fun _ h => ⟨cell_bl hb6 h.1, cell_bl hb6 h.2.1, cell_bl hb6 h.2.2.1, cell_bl hb6 h.2.2.2.1, cell_bl hb6 h.2.2.2.2.1, cell_bl hb6 h.2.2.2.2.2.1, cell_bl hb6 h.2.2.2.2.2.2.1, cell_bl hb6 h.2.2.2.2.2.2.2.1, cell_bl hb6 h.2.2.2.2.2.2.2.2.1, cell_bl hb6 h.2.2.2.2.2.2.2.2.2⟩) ?_⟩
      clear hKc Kc
      simp only [Act.put, List.setIfInBounds_toArray, List.set_cons_succ, List.set_cons_zero]
      refine wpAnyY_pure (i := 8) 108 (v := .tuple #[.pointer (some ⟨g2, 0, none⟩), .int .i64 0]) rfl rfl (by kernel_rfl) (by kernel_rfl) (by kernel_rfl) (fun _ _ _ h => h) (Or.inl ⟨by rfl, by (intro W _; go_simp)⟩) ?_
      simp only [Act.put, List.setIfInBounds_toArray, List.set_cons_succ, List.set_cons_zero]
      refine wpAnyY_pure (i := 9) 117 (v := .pointer (some ⟨g2, 0, none⟩)) rfl rfl (by kernel_rfl) (by kernel_rfl) (by kernel_rfl) (fun _ _ _ h => h) (Or.inl ⟨by rfl, by (intro W _; go_simp)⟩) ?_
      simp only [Act.put, List.setIfInBounds_toArray, List.set_cons_succ, List.set_cons_zero]
      refine wpAnyY_pure (i := 10) 118 (v := .int .i64 0) rfl rfl (by kernel_rfl) (by kernel_rfl) (by kernel_rfl) (fun _ _ _ h => h) (Or.inl ⟨by rfl, by (intro W _; go_simp)⟩) ?_
      simp only [Act.put, List.setIfInBounds_toArray, List.set_cons_succ, List.set_cons_zero]
      refine wpAnyY_pure (i := 11) 14 (v := .pointer (some ⟨g2, 0, none⟩)) rfl rfl (by kernel_rfl) (by kernel_rfl) (by kernel_rfl) (fun _ _ _ h => h) (Or.inl ⟨by rfl, by (intro W _; go_simp)⟩) ?_
      simp only [Act.put, List.setIfInBounds_toArray, List.set_cons_succ, List.set_cons_zero]
      refine wpAnyY_pure (i := 12) 15 (v := .int .i64 0) rfl rfl (by kernel_rfl) (by kernel_rfl) (by kernel_rfl) (fun _ _ _ h => h) (Or.inl ⟨by rfl, by (intro W _; go_simp)⟩) ?_
      simp only [Act.put, List.setIfInBounds_toArray, List.set_cons_succ, List.set_cons_zero]
      refine wpAnyY_done (by kernel_rfl) ?_ _
      have HK6 : Hid (Bk w w6 (w.heap.size + 1) #[.int .i64 c.letters, .int .i64 c.planes, .int .i64 c.regs, .int .i64 c.lo, .int .i64 c.hi, .int .i64 c.most, .slice s.t.a s.t.n s.t.c, .slice s.k.a s.k.n s.k.c, .slice s.i.a s.i.n s.i.c, .slice s.r.a s.r.n s.r.c] ∧ Tb w6 g gs P xn yn sa M.slots M.ends M.steps ∧ Tb w6 g2 gs2 P kn jn sa2 M2.slots M2.ends M2.steps) := by
        have h7 : Below w4.heap.size w4 w6 := ((Below.refl _ _).drew).trans hb6
        refine ⟨H4.out.next h7, HT.out.next h7, ?_⟩
        have := hT2
        rw [HM2.out, HP.out.2.2, HLn.out.1, HLn.out.2] at this
        exact this
      clear hb6 hge2 hT2 hr20 HLd HS H4 HT s1 s2
      go_wp2
      go_loopg [16] P (fun q pv wr => ∃ p : Nat, p + q = P ∧ pv = .int .i64 p ∧ Hid (Bk w wr (w.heap.size + 1) #[.int .i64 c.letters, .int .i64 c.planes, .int .i64 c.regs, .int .i64 c.lo, .int .i64 c.hi, .int .i64 c.most, .slice s.t.a s.t.n s.t.c, .slice s.k.a s.k.n s.k.c, .slice s.i.a s.i.n s.i.c, .slice s.r.a s.r.n s.r.c] ∧ Tb wr g gs P xn yn sa M.slots M.ends M.steps ∧ Tb wr g2 gs2 P kn jn sa2 M2.slots M2.ends M2.steps))
      case atStart => exact ⟨0, by omega, rfl, HK6.out⟩
      case round =>
        clear HK6
        obtain ⟨p, hpq, rfl, HK⟩ := hrel
        have c1 := HK.out.1.cell 1 (.int .i64 c.planes) rfl
        rw [HP.out.1] at c1
        by_cases hp : p < P
        · have hd9 : decide ((p : Int) < (P : Int)) = true := by simp; omega
          have HV : Hid (atB P xn yn M.slots p kn jn = atB P kn jn M2.slots p kn jn ∧ okN (atB P xn yn M.slots p kn jn)) := HEq.out p hp
          go_wp2_with fail
          refine (value_calls HK.out.2.1 p kn jn).mono ?_
          rintro e w7 ⟨rfl, hb7⟩
          have HK7 : Hid (Bk w w7 (w.heap.size + 1) #[.int .i64 c.letters, .int .i64 c.planes, .int .i64 c.regs, .int .i64 c.lo, .int .i64 c.hi, .int .i64 c.most, .slice s.t.a s.t.n s.t.c, .slice s.k.a s.k.n s.k.c, .slice s.i.a s.i.n s.i.c, .slice s.r.a s.r.n s.r.c] ∧ Tb w7 g gs P xn yn sa M.slots M.ends M.steps ∧ Tb w7 g2 gs2 P kn jn sa2 M2.slots M2.ends M2.steps) := ⟨HK.out.1.next hb7, HK.out.2.1.next hb7, HK.out.2.2.next hb7⟩
          clear hb7 HK c1
          go_wp2_with fail
          refine (value_calls HK7.out.2.2 p kn jn).mono ?_
          rintro e w8 ⟨rfl, hb8⟩
          rw [← HV.out.1]
          have HK8 : Hid (Bk w w8 (w.heap.size + 1) #[.int .i64 c.letters, .int .i64 c.planes, .int .i64 c.regs, .int .i64 c.lo, .int .i64 c.hi, .int .i64 c.most, .slice s.t.a s.t.n s.t.c, .slice s.k.a s.k.n s.k.c, .slice s.i.a s.i.n s.i.c, .slice s.r.a s.r.n s.r.c] ∧ Tb w8 g gs P xn yn sa M.slots M.ends M.steps ∧ Tb w8 g2 gs2 P kn jn sa2 M2.slots M2.ends M2.steps) := ⟨HK7.out.1.next hb8, HK7.out.2.1.next hb8, HK7.out.2.2.next hb8⟩
          clear hb8 HK7
          go_wp2_with fail
          refine (mask_calls HK8.out.2.1 p kn jn HV.out.2).mono ?_
          rintro e w9 ⟨rfl, hb9⟩
          have HK9 : Hid (Bk w w9 (w.heap.size + 1) #[.int .i64 c.letters, .int .i64 c.planes, .int .i64 c.regs, .int .i64 c.lo, .int .i64 c.hi, .int .i64 c.most, .slice s.t.a s.t.n s.t.c, .slice s.k.a s.k.n s.k.c, .slice s.i.a s.i.n s.i.c, .slice s.r.a s.r.n s.r.c] ∧ Tb w9 g gs P xn yn sa M.slots M.ends M.steps ∧ Tb w9 g2 gs2 P kn jn sa2 M2.slots M2.ends M2.steps) := ⟨HK8.out.1.next hb9, HK8.out.2.1.next hb9, HK8.out.2.2.next hb9⟩
          clear hb9 HK8
          go_wp2_with fail
          refine (mask_calls HK9.out.2.2 p kn jn (by rw [← HV.out.1]; exact HV.out.2)).mono ?_
          rintro e w10 ⟨rfl, hb10⟩
          rw [← HV.out.1]
          have HK10 : Hid (Bk w w10 (w.heap.size + 1) #[.int .i64 c.letters, .int .i64 c.planes, .int .i64 c.regs, .int .i64 c.lo, .int .i64 c.hi, .int .i64 c.most, .slice s.t.a s.t.n s.t.c, .slice s.k.a s.k.n s.k.c, .slice s.i.a s.i.n s.i.c, .slice s.r.a s.r.n s.r.c] ∧ Tb w10 g gs P xn yn sa M.slots M.ends M.steps ∧ Tb w10 g2 gs2 P kn jn sa2 M2.slots M2.ends M2.steps) := ⟨HK9.out.1.next hb10, HK9.out.2.1.next hb10, HK9.out.2.2.next hb10⟩
          clear hb10 HK9
          generalize atB P xn yn M.slots p kn jn = V at *
          clear HV
          obtain ⟨vh, vm, vn⟩ := V
          have hv1 : (vn != vn) = false := by simp
          have hv2 : (vm != vm) = false := by simp
          go_wp2
          go_roundg (gk - 1)
          case rel => exact ⟨p + 1, by omega, by go_num, HK10⟩
          case measure => omega
        · have hd9 : decide ((p : Int) < (P : Int)) = false := by simp; omega
          go_wp2
          go_ret
          exact ⟨rfl, HK.out.1.low⟩
    · have hjd : decide (j0 < 0) = false := by simpa using hjs
      rw [if_neg hjs] at hjn
      subst hjn
      go_wp2_with fail
      have HLd : Hid (Below w.heap.size w w4.drew) := H4.out.low.drew
      have HS : Hid ((fun W : World => W.cell? ⟨w.heap.size + 1, 0, none⟩ = some (.int .i64 c.letters) ∧ W.cell? ⟨w.heap.size + 1, 1, none⟩ = some (.int .i64 c.planes) ∧ W.cell? ⟨w.heap.size + 1, 2, none⟩ = some (.int .i64 c.regs) ∧ W.cell? ⟨w.heap.size + 1, 3, none⟩ = some (.int .i64 c.lo) ∧ W.cell? ⟨w.heap.size + 1, 4, none⟩ = some (.int .i64 c.hi) ∧ W.cell? ⟨w.heap.size + 1, 5, none⟩ = some (.int .i64 c.most) ∧ W.cell? ⟨w.heap.size + 1, 6, none⟩ = some (.slice s.t.a s.t.n s.t.c) ∧ W.cell? ⟨w.heap.size + 1, 7, none⟩ = some (.slice s.k.a s.k.n s.k.c) ∧ W.cell? ⟨w.heap.size + 1, 8, none⟩ = some (.slice s.i.a s.i.n s.i.c) ∧ W.cell? ⟨w.heap.size + 1, 9, none⟩ = some (.slice s.r.a s.r.n s.r.c)) w4.drew) := ⟨H4.out.cell 0 _ rfl, H4.out.cell 1 _ rfl, H4.out.cell 2 _ rfl, H4.out.cell 3 _ rfl, H4.out.cell 4 _ rfl, H4.out.cell 5 _ rfl, H4.out.cell 6 _ rfl, H4.out.cell 7 _ rfl, H4.out.cell 8 _ rfl, H4.out.cell 9 _ rfl⟩
      have s1 := run_cut22 xa xn xc kn HSl.out.1
      have s2 := run_cut22 ya yn yc jn HSl.out.2
      refine wp_region_Y (fun j => [].contains j) (fun W : World => W.cell? ⟨w.heap.size + 1, 0, none⟩ = some (.int .i64 c.letters) ∧ W.cell? ⟨w.heap.size + 1, 1, none⟩ = some (.int .i64 c.planes) ∧ W.cell? ⟨w.heap.size + 1, 2, none⟩ = some (.int .i64 c.regs) ∧ W.cell? ⟨w.heap.size + 1, 3, none⟩ = some (.int .i64 c.lo) ∧ W.cell? ⟨w.heap.size + 1, 4, none⟩ = some (.int .i64 c.hi) ∧ W.cell? ⟨w.heap.size + 1, 5, none⟩ = some (.int .i64 c.most) ∧ W.cell? ⟨w.heap.size + 1, 6, none⟩ = some (.slice s.t.a s.t.n s.t.c) ∧ W.cell? ⟨w.heap.size + 1, 7, none⟩ = some (.slice s.k.a s.k.n s.k.c) ∧ W.cell? ⟨w.heap.size + 1, 8, none⟩ = some (.slice s.i.a s.i.n s.i.c) ∧ W.cell? ⟨w.heap.size + 1, 9, none⟩ = some (.slice s.r.a s.r.n s.r.c)) (by kernel_rfl) ?_
      refine wpAnyY_takeD (i := 0) 109 (v := .agg #[.int .i64 c.letters, .int .i64 c.planes, .int .i64 c.regs, .int .i64 c.lo, .int .i64 c.hi, .int .i64 c.most, .slice s.t.a s.t.n s.t.c, .slice s.k.a s.k.n s.k.c, .slice s.i.a s.i.n s.i.c, .slice s.r.a s.r.n s.r.c]) rfl rfl (by kernel_rfl) (by kernel_rfl) (late_of (by kernel_rfl)) (by kernel_rfl) (by kernel_rfl) (fun _ _ _ h => h) HS.out (Or.inl ⟨by rfl, by (intro W hW; obtain ⟨e0, e1, e2, e3, e4, e5, e6, e7, e8, e9⟩ := hW; go_simp)⟩) ?_
      simp only [Act.put, List.setIfInBounds_toArray, List.set_cons_succ, List.set_cons_zero]
      refine wpAnyY_pure (i := 1) 110 (v := .slice xa xn xc) rfl rfl (by kernel_rfl) (by kernel_rfl) (by kernel_rfl) (fun _ _ _ h => h) (Or.inl ⟨by rfl, by (intro W _; go_simp)⟩) ?_
      simp only [Act.put, List.setIfInBounds_toArray, List.set_cons_succ, List.set_cons_zero]
      refine wpAnyY_pure (i := 2) 111 (v := .int .i64 (kn : Int)) rfl rfl (by kernel_rfl) (by kernel_rfl) (by kernel_rfl) (fun _ _ _ h => h) (Or.inl ⟨by rfl, by (intro W _; go_simp)⟩) ?_
      simp only [Act.put, List.setIfInBounds_toArray, List.set_cons_succ, List.set_cons_zero]
      refine wpAnyY_pure (i := 3) 112 (v := .slice xa kn xc) rfl rfl (by kernel_rfl) (by kernel_rfl) (by kernel_rfl) (fun _ _ _ h => h) (Or.inl ⟨by rfl, by (intro W _; go_simp)⟩) ?_
      simp only [Act.put, List.setIfInBounds_toArray, List.set_cons_succ, List.set_cons_zero]
      refine wpAnyY_pure (i := 4) 113 (v := .slice ya yn yc) rfl rfl (by kernel_rfl) (by kernel_rfl) (by kernel_rfl) (fun _ _ _ h => h) (Or.inl ⟨by rfl, by (intro W _; go_simp)⟩) ?_
      simp only [Act.put, List.setIfInBounds_toArray, List.set_cons_succ, List.set_cons_zero]
      refine wpAnyY_pure (i := 5) 114 (v := .int .i64 (jn : Int)) rfl rfl (by kernel_rfl) (by kernel_rfl) (by kernel_rfl) (fun _ _ _ h => h) (Or.inl ⟨by rfl, by (intro W _; go_simp)⟩) ?_
      simp only [Act.put, List.setIfInBounds_toArray, List.set_cons_succ, List.set_cons_zero]
      refine wpAnyY_pure (i := 6) 115 (v := .slice ya jn yc) rfl rfl (by kernel_rfl) (by kernel_rfl) (by kernel_rfl) (fun _ _ _ h => h) (Or.inl ⟨by rfl, by (intro W _; go_simp)⟩) ?_
      simp only [Act.put, List.setIfInBounds_toArray, List.set_cons_succ, List.set_cons_zero]
      refine wpAnyY_one (i := 7) rfl (by kernel_rfl) (fun Kc hKc => ?_)
      refine step_fnD 116 rfl (by rfl) 12 _ _ rfl Try.f12 Try.func12 (by kernel_rfl) (by kernel_rfl) #[.agg #[.int .i64 c.letters, .int .i64 c.planes, .int .i64 c.regs, .int .i64 c.lo, .int .i64 c.hi, .int .i64 c.most, .slice s.t.a s.t.n s.t.c, .slice s.k.a s.k.n s.k.c, .slice s.i.a s.i.n s.i.c, .slice s.r.a s.r.n s.r.c], .slice xa kn xc, .slice ya jn yc] (by simp [Act.eval]) (HRu.out _ HLd.out) ?_
      rintro e w6 ⟨hb6, r2, rfl, _, hr20⟩
      obtain ⟨g2, gs2, sa2, rfl, hge2, hT2, _⟩ := hr20 HRf2.out
      rw [HRf2.out]
      refine ⟨_, rfl, hKc.out _ _ (fun _ h => ⟨cell_bl hb6 h.1, cell_bl hb6 h.2.1, cell_bl hb6 h.2.2.1, cell_bl hb6 h.2.2.2.1, cell_bl hb6 h.2.2.2.2.1, cell_bl hb6 h.2.2.2.2.2.1, cell_bl hb6 h.2.2.2.2.2.2.1, cell_bl hb6 h.2.2.2.2.2.2.2.1, cell_bl hb6 h.2.2.2.2.2.2.2.2.1, cell_bl hb6 h.2.2.2.2.2.2.2.2.2⟩) ?_⟩
      clear hKc Kc
      simp only [Act.put, List.setIfInBounds_toArray, List.set_cons_succ, List.set_cons_zero]
      refine wpAnyY_pure (i := 8) 108 (v := .tuple #[.pointer (some ⟨g2, 0, none⟩), .int .i64 0]) rfl rfl (by kernel_rfl) (by kernel_rfl) (by kernel_rfl) (fun _ _ _ h => h) (Or.inl ⟨by rfl, by (intro W _; go_simp)⟩) ?_
      simp only [Act.put, List.setIfInBounds_toArray, List.set_cons_succ, List.set_cons_zero]
      refine wpAnyY_pure (i := 9) 117 (v := .pointer (some ⟨g2, 0, none⟩)) rfl rfl (by kernel_rfl) (by kernel_rfl) (by kernel_rfl) (fun _ _ _ h => h) (Or.inl ⟨by rfl, by (intro W _; go_simp)⟩) ?_
      simp only [Act.put, List.setIfInBounds_toArray, List.set_cons_succ, List.set_cons_zero]
      refine wpAnyY_pure (i := 10) 118 (v := .int .i64 0) rfl rfl (by kernel_rfl) (by kernel_rfl) (by kernel_rfl) (fun _ _ _ h => h) (Or.inl ⟨by rfl, by (intro W _; go_simp)⟩) ?_
      simp only [Act.put, List.setIfInBounds_toArray, List.set_cons_succ, List.set_cons_zero]
      refine wpAnyY_pure (i := 11) 14 (v := .pointer (some ⟨g2, 0, none⟩)) rfl rfl (by kernel_rfl) (by kernel_rfl) (by kernel_rfl) (fun _ _ _ h => h) (Or.inl ⟨by rfl, by (intro W _; go_simp)⟩) ?_
      simp only [Act.put, List.setIfInBounds_toArray, List.set_cons_succ, List.set_cons_zero]
      refine wpAnyY_pure (i := 12) 15 (v := .int .i64 0) rfl rfl (by kernel_rfl) (by kernel_rfl) (by kernel_rfl) (fun _ _ _ h => h) (Or.inl ⟨by rfl, by (intro W _; go_simp)⟩) ?_
      simp only [Act.put, List.setIfInBounds_toArray, List.set_cons_succ, List.set_cons_zero]
      refine wpAnyY_done (by kernel_rfl) ?_ _
      have HK6 : Hid (Bk w w6 (w.heap.size + 1) #[.int .i64 c.letters, .int .i64 c.planes, .int .i64 c.regs, .int .i64 c.lo, .int .i64 c.hi, .int .i64 c.most, .slice s.t.a s.t.n s.t.c, .slice s.k.a s.k.n s.k.c, .slice s.i.a s.i.n s.i.c, .slice s.r.a s.r.n s.r.c] ∧ Tb w6 g gs P xn yn sa M.slots M.ends M.steps ∧ Tb w6 g2 gs2 P kn jn sa2 M2.slots M2.ends M2.steps) := by
        have h7 : Below w4.heap.size w4 w6 := ((Below.refl _ _).drew).trans hb6
        refine ⟨H4.out.next h7, HT.out.next h7, ?_⟩
        have := hT2
        rw [HM2.out, HP.out.2.2, HLn.out.1, HLn.out.2] at this
        exact this
      clear hb6 hge2 hT2 hr20 HLd HS H4 HT s1 s2
      go_wp2
      go_loopg [16] P (fun q pv wr => ∃ p : Nat, p + q = P ∧ pv = .int .i64 p ∧ Hid (Bk w wr (w.heap.size + 1) #[.int .i64 c.letters, .int .i64 c.planes, .int .i64 c.regs, .int .i64 c.lo, .int .i64 c.hi, .int .i64 c.most, .slice s.t.a s.t.n s.t.c, .slice s.k.a s.k.n s.k.c, .slice s.i.a s.i.n s.i.c, .slice s.r.a s.r.n s.r.c] ∧ Tb wr g gs P xn yn sa M.slots M.ends M.steps ∧ Tb wr g2 gs2 P kn jn sa2 M2.slots M2.ends M2.steps))
      case atStart => exact ⟨0, by omega, rfl, HK6.out⟩
      case round =>
        clear HK6
        obtain ⟨p, hpq, rfl, HK⟩ := hrel
        have c1 := HK.out.1.cell 1 (.int .i64 c.planes) rfl
        rw [HP.out.1] at c1
        by_cases hp : p < P
        · have hd9 : decide ((p : Int) < (P : Int)) = true := by simp; omega
          have HV : Hid (atB P xn yn M.slots p kn jn = atB P kn jn M2.slots p kn jn ∧ okN (atB P xn yn M.slots p kn jn)) := HEq.out p hp
          go_wp2_with fail
          refine (value_calls HK.out.2.1 p kn jn).mono ?_
          rintro e w7 ⟨rfl, hb7⟩
          have HK7 : Hid (Bk w w7 (w.heap.size + 1) #[.int .i64 c.letters, .int .i64 c.planes, .int .i64 c.regs, .int .i64 c.lo, .int .i64 c.hi, .int .i64 c.most, .slice s.t.a s.t.n s.t.c, .slice s.k.a s.k.n s.k.c, .slice s.i.a s.i.n s.i.c, .slice s.r.a s.r.n s.r.c] ∧ Tb w7 g gs P xn yn sa M.slots M.ends M.steps ∧ Tb w7 g2 gs2 P kn jn sa2 M2.slots M2.ends M2.steps) := ⟨HK.out.1.next hb7, HK.out.2.1.next hb7, HK.out.2.2.next hb7⟩
          clear hb7 HK c1
          go_wp2_with fail
          refine (value_calls HK7.out.2.2 p kn jn).mono ?_
          rintro e w8 ⟨rfl, hb8⟩
          rw [← HV.out.1]
          have HK8 : Hid (Bk w w8 (w.heap.size + 1) #[.int .i64 c.letters, .int .i64 c.planes, .int .i64 c.regs, .int .i64 c.lo, .int .i64 c.hi, .int .i64 c.most, .slice s.t.a s.t.n s.t.c, .slice s.k.a s.k.n s.k.c, .slice s.i.a s.i.n s.i.c, .slice s.r.a s.r.n s.r.c] ∧ Tb w8 g gs P xn yn sa M.slots M.ends M.steps ∧ Tb w8 g2 gs2 P kn jn sa2 M2.slots M2.ends M2.steps) := ⟨HK7.out.1.next hb8, HK7.out.2.1.next hb8, HK7.out.2.2.next hb8⟩
          clear hb8 HK7
          go_wp2_with fail
          refine (mask_calls HK8.out.2.1 p kn jn HV.out.2).mono ?_
          rintro e w9 ⟨rfl, hb9⟩
          have HK9 : Hid (Bk w w9 (w.heap.size + 1) #[.int .i64 c.letters, .int .i64 c.planes, .int .i64 c.regs, .int .i64 c.lo, .int .i64 c.hi, .int .i64 c.most, .slice s.t.a s.t.n s.t.c, .slice s.k.a s.k.n s.k.c, .slice s.i.a s.i.n s.i.c, .slice s.r.a s.r.n s.r.c] ∧ Tb w9 g gs P xn yn sa M.slots M.ends M.steps ∧ Tb w9 g2 gs2 P kn jn sa2 M2.slots M2.ends M2.steps) := ⟨HK8.out.1.next hb9, HK8.out.2.1.next hb9, HK8.out.2.2.next hb9⟩
          clear hb9 HK8
          go_wp2_with fail
          refine (mask_calls HK9.out.2.2 p kn jn (by rw [← HV.out.1]; exact HV.out.2)).mono ?_
          rintro e w10 ⟨rfl, hb10⟩
          rw [← HV.out.1]
          have HK10 : Hid (Bk w w10 (w.heap.size + 1) #[.int .i64 c.letters, .int .i64 c.planes, .int .i64 c.regs, .int .i64 c.lo, .int .i64 c.hi, .int .i64 c.most, .slice s.t.a s.t.n s.t.c, .slice s.k.a s.k.n s.k.c, .slice s.i.a s.i.n s.i.c, .slice s.r.a s.r.n s.r.c] ∧ Tb w10 g gs P xn yn sa M.slots M.ends M.steps ∧ Tb w10 g2 gs2 P kn jn sa2 M2.slots M2.ends M2.steps) := ⟨HK9.out.1.next hb10, HK9.out.2.1.next hb10, HK9.out.2.2.next hb10⟩
          clear hb10 HK9
          generalize atB P xn yn M.slots p kn jn = V at *
          clear HV
          obtain ⟨vh, vm, vn⟩ := V
          have hv1 : (vn != vn) = false := by simp
          have hv2 : (vm != vm) = false := by simp
          go_wp2
          go_roundg (gk - 1)
          case rel => exact ⟨p + 1, by omega, by go_num, HK10⟩
          case measure => omega
        · have hd9 : decide ((p : Int) < (P : Int)) = false := by simp; omega
          go_wp2
          go_ret
          exact ⟨rfl, HK.out.1.low⟩

theorem begins_in (c : Cd) (s : Ls) (sx : Sl) (x : List Int) (sy : Sl) (y : List Int) (n : Int) (w : World) (h : CdIn w c s ∧ (IntsAt w sx.a sx.n x ∧ SlIn sx) ∧ (IntsAt w sy.a sy.n y ∧ SlIn sy)) :
    Calls Try.prog 4 #[.agg (cdCells c s ++ #[.slice sx.a sx.n sx.c, .slice sy.a sy.n sy.c, .int .i64 n])] w fun e w' => e = .returned (.bool true) ∧ Below w.heap.size w w' := begins_walk c s sx x sy y n w h.1 h.2.1 h.2.2

namespace machineBegins
open Go.ChangeShapes Go.WideShapes Go.ChangeAt Go.RowKit
open Go.ChangeMaps (open_string shut_string)
theorem own : ownKnob Try.prog.godebug = none := by kernel_rfl
theorem laidOut : laidOutB Try.prog = true := by kernel_rfl
set_option maxRecDepth 100000 in
theorem lifted (os : Os) (started : os.Started) (H : Type) (enc : TypeId × Value → H) :
    ReturnsInHanded {} Try.checked os 4 .any (Rows.machineBeginsSpec.pre6 enc Try.prog Try.f4 Rows.machineBeginsRow.domain false) (Rows.machineBeginsSpec.post enc Try.prog Try.f4 false true false false) := by
  refine returnsInHanded_of_change_sized (C := Try.checked) own started (by kernel_rfl) Try.func4
    (ChangeSpec.witness6 (enc := enc) (C := Try.checked) false ⟨#[], #[.agg #[.int .i64 0, .int .i64 0, .int .i64 0, .int .i64 0, .int .i64 0, .int .i64 0, .slice none 0 0, .slice none 0 0, .slice none 0 0, .slice none 0 0, .slice none 0 0, .slice none 0 0, .int .i64 0]], []⟩ 8 (by kernel_rfl) (by kernel_rfl) (by kernel_rfl) (by kernel_rfl)) ?_
  intro W base args ds gs before hval0 hW _ hsz0 _
  have hval : ∀ (j : Nat) t v, Try.f4.params[j]? = some t → args[j]? = some v → Value.okWide Try.prog W .any base t v := hval0
  have hsz : (DataW.weightsEach Try.prog (Try.f4.params.toList ++ Rows.machineBeginsSpec.plain.varTypes Try.prog) (ds ++ gs)).all (· ≤ reachBytes) = true := hsz0
  have hW' := hW
  obtain ⟨p, q, hA0, hV, rfl, hfz, hnd⟩ := hW
  have hA : DataW.TrodAll enc Try.prog W 0 (fun _ => true) true Try.f4.params.toList args.toList ds p := hA0
  rw [Try.params4] at hA hval hsz
  obtain ⟨v0, vs0, d0, ds0, p0, q0, hargs, rfl, rfl, h0, r0⟩ := trodAll_cons hA
  obtain ⟨rfl, rfl, rfl⟩ := trodAll_nil r0
  obtain rfl : args = #[v0] := by cases args; simp_all
  obtain ⟨rfl, rfl⟩ := trodVars_none hV
  have hw : ∀ (j : Nat) (t : TypeId) (d : DataW H), ([62] ++ Rows.machineBeginsSpec.plain.varTypes Try.prog)[j]? = some t → ([d0] ++ [])[j]? = some d → ∀ n ∈ d.weights Try.prog t, n ≤ reachBytes := fun j t d ht hd n hn =>
    of_decide_eq_true (List.all_eq_true.1 hsz _ (DataW.weights_mem_each ht hd n hn))
  obtain ⟨cs0, rfl, hcs0⟩ := okWide_struct Try.underlying62 (hval 0 62 v0 rfl rfl)
  have lt0 : ∀ x ∈ p0, x.block < W.heap.size := by obtain ⟨m, hm⟩ := h0; exact DataW.trod_lt m _ _ _ hm
  obtain ⟨z0, s0, sx0, lx0, sy0, ly0, n0, e0, in0⟩ := case_in hcs0 h0
  subst e0
  clear hA0 hval0
  refine (begins_in z0 s0 sx0 lx0 sy0 ly0 n0 W in0).mono fun e W' ⟨he, bel⟩ => ?_
  subst he
  exact ⟨_, rfl, _, _, _, [], _, [], hW', trodAll_mk1 (shut_bool Try.underlying4 _), (trodAll_cons_mk (Below.trod laidOut (by kernel_rfl) (of_decide_eq_true (by kernel_rfl)) h0 bel lt0) trodAll_mk0), rfl, bel.frame _, fun h => by cases h⟩
end machineBegins

theorem machineBegins_holds : Rows.MachineBeginsSaid :=
  OpenClaim.holds_of_wide 4 Try.f4 rfl rfl rfl rfl rfl rfl rfl ⟨rfl, rfl, rfl, rfl, rfl⟩ rfl rfl rfl rfl rfl (by kernel_rfl) Try.func4 (by kernel_rfl)
    (of_decide_eq_true (by kernel_rfl)) (by unfold Func.isWrapper; first | (rw [if_pos (by decide +kernel)]; kernel_rfl) | (rw [if_neg (by decide +kernel)]; exact ⟨rfl, rfl⟩))
    (fun os started H enc _ => machineBegins.lifted os started H enc)

end Go.Proofs.Ytjpeoejielamiaa
