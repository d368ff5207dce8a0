/-
  The instructions that were gone through are the code's, as often as there are cells in the band: the law.
-/
import Derived.Test.YtjpeoejielamiabMlA
import Derived.Test.YtjpeoejielamiabMpS
namespace Go.Proofs.Ytjpeoejielamiab
open Go.RowKit

set_option maxRecDepth 20000 in
set_option maxHeartbeats 4000000 in
theorem mcells_walk (c : Cd) (s : Ls) (sx : Sl) (x : List Int) (sy : Sl) (y : List Int) (w : World) (hc : CdIn w c s) (hx : IntsAt w sx.a sx.n x) (_ : SlIn sx) (hy : IntsAt w sy.a sy.n y) (_ : SlIn sy) :
    Calls Try.prog 3 #[.agg (cdCells c s), .slice sx.a sx.n sx.c, .slice sy.a sy.n sy.c] w fun e w' => e = .returned (.bool true) ∧ Below w.heap.size w w' := by
  have HC : Hid (CdAt w c s ∧ IntsAt w sx.a sx.n x ∧ IntsAt w sy.a sy.n y) := ⟨hc.at', hx, hy⟩
  clear hc hx hy
  obtain ⟨xa, xn, xc⟩ := sx
  obtain ⟨ya, yn, yc⟩ := sy
  have H0 : Hid (Bo w (w.alloc (.cells (cdCells c s) 26)) (cdCells c s)) := ⟨below_new _, heap_alloc_new _ _⟩
  rw [show cdCells c s = #[.int .i64 c.letters, .int .i64 c.planes, .int .i64 c.regs, .int .i64 c.lo, .int .i64 c.hi, .int .i64 c.most, .slice s.t.a s.t.n s.t.c, .slice s.k.a s.k.n s.k.c, .slice s.i.a s.i.n s.i.c, .slice s.r.a s.r.n s.r.c] from rfl] at H0 ⊢
  go_enter Try.func3, Try.ntmps3
  go_wp2_with fail
  refine (small_calls c s ⟨xa, xn, xc⟩ ⟨ya, yn, yc⟩ x y _ (HC.out.1.below H0.out.low) (HC.out.2.1.below H0.out.low) (HC.out.2.2.below H0.out.low)).mono ?_
  rintro e w1 ⟨⟨b, rfl, hsm⟩, hb1⟩
  have H1 : Hid (Bo w w1 #[.int .i64 c.letters, .int .i64 c.planes, .int .i64 c.regs, .int .i64 c.lo, .int .i64 c.hi, .int .i64 c.most, .slice s.t.a s.t.n s.t.c, .slice s.k.a s.k.n s.k.c, .slice s.i.a s.i.n s.i.c, .slice s.r.a s.r.n s.r.c]) := H0.out.next hb1
  have HSm : Hid (b = true → s.t.n ≤ 2147483647 ∧ s.k.n ≤ 2147483647 ∧ s.i.n ≤ 2147483647 ∧ s.r.n ≤ 2147483647 ∧ xn ≤ 2147483647 ∧ yn ≤ 2147483647) := hsm
  clear hb1 H0 hsm
  cases b
  · go_wp2
    go_ret
    exact ⟨rfl, H1.out.low⟩
  have HSz : Hid (xn ≤ 2147483647 ∧ yn ≤ 2147483647) := ⟨(HSm.out rfl).2.2.2.2.1, (HSm.out rfl).2.2.2.2.2⟩
  go_wp2_with fail
  refine (awake_calls _).mono ?_
  rintro e w2 ⟨rfl, hb2⟩
  have H2 : Hid (Bo w w2 #[.int .i64 c.letters, .int .i64 c.planes, .int .i64 c.regs, .int .i64 c.lo, .int .i64 c.hi, .int .i64 c.most, .slice s.t.a s.t.n s.t.c, .slice s.k.a s.k.n s.k.c, .slice s.i.a s.i.n s.i.c, .slice s.r.a s.r.n s.r.c]) := H1.out.next hb2
  clear hb2 H1
  have c0 := H2.out.cell 0 (v := .int .i64 c.letters) rfl
  have c1 := H2.out.cell 1 (v := .int .i64 c.planes) rfl
  have c2 := H2.out.cell 2 (v := .int .i64 c.regs) rfl
  have c3 := H2.out.cell 3 (v := .int .i64 c.lo) rfl
  have c4 := H2.out.cell 4 (v := .int .i64 c.hi) rfl
  have c5 := H2.out.cell 5 (v := .int .i64 c.most) rfl
  have c6 := H2.out.cell 6 (v := .slice s.t.a s.t.n s.t.c) rfl
  have c7 := H2.out.cell 7 (v := .slice s.k.a s.k.n s.k.c) rfl
  have c8 := H2.out.cell 8 (v := .slice s.i.a s.i.n s.i.c) rfl
  have c9 := H2.out.cell 9 (v := .slice s.r.a s.r.n s.r.c) rfl
  go_wp2_with fail
  refine (dcheck_calls c s _ (HC.out.1.below H2.out.low)).mono ?_
  rintro e w3 ⟨rfl, hb3⟩
  have H3 : Hid (Bo w w3 #[.int .i64 c.letters, .int .i64 c.planes, .int .i64 c.regs, .int .i64 c.lo, .int .i64 c.hi, .int .i64 c.most, .slice s.t.a s.t.n s.t.c, .slice s.k.a s.k.n s.k.c, .slice s.i.a s.i.n s.i.c, .slice s.r.a s.r.n s.r.c]) := H2.out.next hb3
  clear hb3 H2
  clear c0 c1 c2 c3 c4 c5 c6 c7 c8 c9
  obtain ⟨er, her⟩ : ∃ er, (chkB c).2 = er := ⟨_, rfl⟩
  obtain ⟨at1, hat⟩ : ∃ a, (chkB c).1 = a := ⟨_, rfl⟩
  have HEr : Hid ((chkB c).2 = er) := her
  rw [her, hat]
  clear her hat
  have c0 := H3.out.cell 0 (v := .int .i64 c.letters) rfl
  have c1 := H3.out.cell 1 (v := .int .i64 c.planes) rfl
  have c2 := H3.out.cell 2 (v := .int .i64 c.regs) rfl
  have c3 := H3.out.cell 3 (v := .int .i64 c.lo) rfl
  have c4 := H3.out.cell 4 (v := .int .i64 c.hi) rfl
  have c5 := H3.out.cell 5 (v := .int .i64 c.most) rfl
  have c6 := H3.out.cell 6 (v := .slice s.t.a s.t.n s.t.c) rfl
  have c7 := H3.out.cell 7 (v := .slice s.k.a s.k.n s.k.c) rfl
  have c8 := H3.out.cell 8 (v := .slice s.i.a s.i.n s.i.c) rfl
  have c9 := H3.out.cell 9 (v := .slice s.r.a s.r.n s.r.c) rfl
  go_wp2_with fail
  refine (run_calls c s ⟨xa, xn, xc⟩ ⟨ya, yn, yc⟩ x y _ (HC.out.1.below H3.out.low) (HC.out.2.1.below H3.out.low) (HC.out.2.2.below H3.out.low)).mono ?_
  rintro e w4 ⟨hb4, r, rfl, hr1, hr0⟩
  have H4 : Hid (Bo w w4 #[.int .i64 c.letters, .int .i64 c.planes, .int .i64 c.regs, .int .i64 c.lo, .int .i64 c.hi, .int .i64 c.most, .slice s.t.a s.t.n s.t.c, .slice s.k.a s.k.n s.k.c, .slice s.i.a s.i.n s.i.c, .slice s.r.a s.r.n s.r.c]) := H3.out.next hb4
  have HLe : Hid (w.heap.size ≤ w3.heap.size) := H3.out.low.size
  rw [HEr.out] at hr1 hr0 ⊢
  have HR1 : Hid (refB er c x y ≠ 0 → r = .pointer none) := hr1
  have HR0 : Hid (refB er c x y = 0 → ∃ g gs sa, r = .pointer (some ⟨g, 0, none⟩) ∧ (w3.heap.size ≤ g ∧ w3.heap.size ≤ gs) ∧ Tb w4 g gs c.planes.toNat x.length y.length sa (runM c x y).slots (runM c x y).ends (runM c x y).steps ∧
      w4.ownsRow w3.heap.size 70 4 (.slice sa.a sa.n sa.c) sa.n (qdVals c.arrows) ∧ sa.n = c.arrows.length) := hr0
  clear hb4 H3 hr1 hr0
  clear c0 c1 c2 c3 c4 c5 c6 c7 c8 c9
  obtain ⟨R, hR⟩ : ∃ R, refB er c x y = R := ⟨_, rfl⟩
  have HR : Hid (refB er c x y = R) := hR
  rw [hR] at HR1 HR0 ⊢
  clear hR
  by_cases h0 : er = 0
  rotate_left
  · have hd : (er != 0) = true := by simp [h0]
    have hRe : R = er := by rw [← HR.out]; unfold refB; rw [if_pos h0]
    subst hRe
    obtain rfl := HR1.out h0
    have hee : (R == R) = true := by simp
    clear h0
    go_wp2
    go_ret
    exact ⟨rfl, H4.out.low⟩
  have hd : (er != 0) = false := by simp [h0]
  have HG : Hid (Gk c) := gk_of (HEr.out.trans h0)
  have H5 : Hid (R = 0 ∨ R = 170 ∨ R = 11 ∨ R = 131) := by
    show _ ∨ _
    rw [← HR.out]
    unfold refB
    rw [if_neg (fun h => h h0)]
    split
    · exact Or.inr (Or.inl rfl)
    split
    · exact Or.inr (Or.inr (Or.inl rfl))
    split
    · exact Or.inr (Or.inr (Or.inr rfl))
    · exact Or.inl rfl
  by_cases hR0 : R = 0
  rotate_left
  · obtain rfl := HR1.out hR0
    have h5 := H5.out
    clear h0 H5 HR0 HR1
    have hb1 : (R == 170) = decide (R = 170) := by rw [Bool.eq_iff_iff]; simp
    by_cases h170 : R = 170
    · subst h170
      go_wp2
      go_ret
      exact ⟨rfl, H4.out.low⟩
    by_cases h11 : R = 11
    · subst h11
      go_wp2
      go_ret
      exact ⟨rfl, H4.out.low⟩
    have h131 : R = 131 := by omega
    subst h131
    go_wp2
    go_ret
    exact ⟨rfl, H4.out.low⟩
  obtain ⟨g, gs, sa, rfl, hge, hT, hO, hsn⟩ := HR0.out hR0
  have hrf := HR.out
  rw [hR0, ← HEr.out] at hrf
  have HOk : Hid (((x.length : Int) ≤ c.most ∧ (y.length : Int) ≤ c.most) ∧ (lettersB c x ∧ lettersB c y) ∧ (x.length + 1) * (y.length + 1) ≤ 1048576) := ⟨(ref_0 hrf).2.1, (ref_0 hrf).2.2.1, (ref_0 hrf).2.2.2⟩
  subst hR0
  have HXY : Hid (x.length = xn ∧ y.length = yn) := ⟨HC.out.2.1.length, HC.out.2.2.length⟩
  obtain ⟨P, hP⟩ : ∃ P : Nat, c.planes = P := ⟨c.planes.toNat, by have := HG.out.rt.planes; omega⟩
  have HP : Hid (c.planes = P ∧ P ≤ 10 ∧ c.planes.toNat = P) := ⟨hP, by have := HG.out.rt.planes; omega, by omega⟩
  clear hP HR0 HR1 H5 HR h0 hrf
  obtain ⟨M, hM⟩ : ∃ M, runM c x y = M := ⟨_, rfl⟩
  have HM : Hid (runM c x y = M) := hM
  rw [hM, HP.out.2.2, HXY.out.1, HXY.out.2] at hT
  have HT : Hid (Tw w w4 c s g gs P xn yn sa M.slots M.ends M.steps) := ⟨H4.out, hT⟩
  have HAr : Hid (w4.ownsRow w3.heap.size 70 4 (.slice sa.a sa.n sa.c) sa.n (qdVals c.arrows) ∧ sa.n = c.arrows.length) := ⟨hO, hsn⟩
  clear hM hT hge hO hsn H4
  have hx20 : (xn : Int) ≤ 65536 := by have h1 := HOk.out.1.1; have h2 := HG.out.rt.most; have h3 := HXY.out.1; omega
  have hy20 : (yn : Int) ≤ 65536 := by have h1 := HOk.out.1.2; have h2 := HG.out.rt.most; have h3 := HXY.out.2; omega

  have HBd : Hid ((-65537 ≤ c.lo ∧ c.lo ≤ 65537) ∧ (-65537 ≤ c.hi ∧ c.hi ≤ 65537) ∧ c.lo ≤ c.hi) := HG.out.band
  obtain ⟨⟨b1, b2⟩, ⟨b3, b4⟩, _⟩ := HBd.out
  have HXY2 : Hid ((xn + 1) * (yn + 1) ≤ 1048576) := by have := HOk.out.2.2; rw [HXY.out.1, HXY.out.2] at this; exact this
  have HCnt : Hid (∀ i, i ≤ xn + 1 → cntTo c y i ≤ 1048576) := fun i hi => by
    have h1 := cnt_le c y (xn + 1)
    have h2 := cnt_mono c y i (xn + 1 - i)
    rw [show i + (xn + 1 - i) = xn + 1 by omega] at h2
    rw [HXY.out.2] at h1
    exact Nat.le_trans h2 (Nat.le_trans h1 HXY2.out)
  have HSt : Hid (M.steps = (cntTo c y (xn + 1) : Int) * (s.i.n : Int)) := by
    have := run_steps_small (c := c) (x := x) (y := y) HOk.out.2.2 HG.out.rt.clen
    rw [HM.out, HXY.out.1, HC.out.1.cell.length] at this
    exact this
  have HIn : Hid (s.i.n ≤ 1000) := by show _ ≤ _; have h1 := HC.out.1.cell.length; have h2 := HG.out.rt.clen; omega
  clear HSm HSz HLe HAr
  go_wp2
  go_loopg [12, 13] (xn + 1) (fun q cv iv wr => ∃ i : Nat, i + q = xn + 1 ∧ iv = .int .i64 i ∧ cv = .int .i64 (cntTo c y i) ∧ Hid (Tw w wr c s g gs P xn yn sa M.slots M.ends M.steps))
  case atStart => exact ⟨0, by omega, rfl, rfl, HT.out⟩
  case round =>
    clear HT
    obtain ⟨i, hiq, rfl, rfl, HT⟩ := hrel
    have hcn := HCnt.out i (by omega)
    obtain ⟨N, hN⟩ : ∃ N, cntTo c y i = N := ⟨_, rfl⟩
    by_cases hi : i ≤ xn
    · have hd : decide ((i : Int) ≤ (xn : Int)) = true := by simp; omega
      obtain ⟨N1, hNN⟩ : ∃ N1, cntTo c y (i + 1) = N1 := ⟨_, rfl⟩
      have HN1 : Hid (cntTo c y (i + 1) = N1) := hNN
      have hN1 : (N1 : Int) = (N : Int) + ((min (yn : Int) ((i : Int) + c.hi) + 1 - max 0 ((i : Int) + c.lo)).toNat : Int) := by
        rw [← hNN, ← hN]
        show ((cntTo c y i + rowN c y i : Nat) : Int) = _
        unfold rowN rowHi rowLo
        rw [HXY.out.2]
        omega
      have HN0 : Hid (cntTo c y i = N) := hN
      rw [hN] at hcn ⊢
      clear hNN hN
      have c3 := HT.out.bo.cell 3 (v := .int .i64 c.lo) rfl
      have c4 := HT.out.bo.cell 4 (v := .int .i64 c.hi) rfl
      have hN20 : (N : Int) ≤ 1048576 := by omega
      by_cases hl : (i : Int) + c.lo < 0
      · have hld : decide ((i : Int) + c.lo < 0) = true := by simpa using hl
        by_cases hh : (yn : Int) < (i : Int) + c.hi
        · have hhd : decide ((yn : Int) < (i : Int) + c.hi) = true := by simpa using hh
          skip
          by_cases hlh : (0 : Int) ≤ (yn : Int)
          · have hlhd : decide ((0 : Int) ≤ (yn : Int)) = true := decide_eq_true hlh
            have hN2 : (N1 : Int) = (N : Int) + ((yn : Int)) - ((0 : Int)) + 1 := by rw [hN1]; omega
            clear hN1 hlh
            go_wp2
            go_roundg (gk - 1)
            case rel => exact ⟨i + 1, by omega, by go_num, by rw [HN1.out]; exact congrArg (Value.int .i64) (by omega), HT⟩
            case measure => omega
          · exfalso; have := HBd.out.2.2; omega
        · have hhd : decide ((yn : Int) < (i : Int) + c.hi) = false := by simpa using hh
          skip
          by_cases hlh : (0 : Int) ≤ (i : Int) + c.hi
          · have hlhd : decide ((0 : Int) ≤ (i : Int) + c.hi) = true := decide_eq_true hlh
            have hN2 : (N1 : Int) = (N : Int) + ((i : Int) + c.hi) - ((0 : Int)) + 1 := by rw [hN1]; omega
            clear hN1 hlh
            go_wp2
            go_roundg (gk - 1)
            case rel => exact ⟨i + 1, by omega, by go_num, by rw [HN1.out]; exact congrArg (Value.int .i64) (by omega), HT⟩
            case measure => omega
          · have hlhd : decide ((0 : Int) ≤ (i : Int) + c.hi) = false := decide_eq_false hlh
            have hN2 : N1 = N := by omega
            clear hN1 hlh
            go_wp2
            go_roundg (gk - 1)
            case rel => exact ⟨i + 1, by omega, by go_num, by rw [HN1.out, hN2], HT⟩
            case measure => omega
      · have hld : decide ((i : Int) + c.lo < 0) = false := by simpa using hl
        by_cases hh : (yn : Int) < (i : Int) + c.hi
        · have hhd : decide ((yn : Int) < (i : Int) + c.hi) = true := by simpa using hh
          skip
          by_cases hlh : (i : Int) + c.lo ≤ (yn : Int)
          · have hlhd : decide ((i : Int) + c.lo ≤ (yn : Int)) = true := decide_eq_true hlh
            have hN2 : (N1 : Int) = (N : Int) + ((yn : Int)) - ((i : Int) + c.lo) + 1 := by rw [hN1]; omega
            clear hN1 hlh
            go_wp2
            go_roundg (gk - 1)
            case rel => exact ⟨i + 1, by omega, by go_num, by rw [HN1.out]; exact congrArg (Value.int .i64) (by omega), HT⟩
            case measure => omega
          · have hlhd : decide ((i : Int) + c.lo ≤ (yn : Int)) = false := decide_eq_false hlh
            have hN2 : N1 = N := by omega
            clear hN1 hlh
            go_wp2
            go_roundg (gk - 1)
            case rel => exact ⟨i + 1, by omega, by go_num, by rw [HN1.out, hN2], HT⟩
            case measure => omega
        · have hhd : decide ((yn : Int) < (i : Int) + c.hi) = false := by simpa using hh
          skip
          by_cases hlh : (i : Int) + c.lo ≤ (i : Int) + c.hi
          · have hlhd : decide ((i : Int) + c.lo ≤ (i : Int) + c.hi) = true := decide_eq_true hlh
            have hN2 : (N1 : Int) = (N : Int) + ((i : Int) + c.hi) - ((i : Int) + c.lo) + 1 := by rw [hN1]; omega
            clear hN1 hlh
            go_wp2
            go_roundg (gk - 1)
            case rel => exact ⟨i + 1, by omega, by go_num, by rw [HN1.out]; exact congrArg (Value.int .i64) (by omega), HT⟩
            case measure => omega
          · exfalso; have := HBd.out.2.2; omega
    · have hd : decide ((i : Int) ≤ (xn : Int)) = false := by simp; omega
      have hin : i = xn + 1 := by omega
      subst hin
      have HSt2 := HSt.out
      rw [hN] at HSt2 hcn ⊢
      clear hN
      go_wp2_with fail
      refine (steps_calls HT.out.tb).mono ?_
      rintro e w5 ⟨rfl, hb5⟩
      have HT5 := HT.out.next hb5
      have HL : Hid (Below w.heap.size w w5) := HT5.bo.low
      have c8 := HT5.bo.cell 8 (v := .slice s.i.a s.i.n s.i.c) rfl
      clear hb5 HT HT5
      obtain ⟨Q, hQ⟩ : ∃ Q, (N : Int) * (s.i.n : Int) = Q := ⟨_, rfl⟩
      have hQ0 : 0 ≤ Q ∧ Q ≤ 1048576 * 1000 := by
        rw [← hQ]
        exact ⟨Int.mul_nonneg (by omega) (by omega), Int.mul_le_mul (by omega) (by have := HIn.out; omega) (by omega) (by omega)⟩
      obtain ⟨q0, q1⟩ := hQ0
      rw [hQ] at HSt2
      rw [HSt2]
      have hqq : (Q == Q) = true := by simp
      clear HSt2
      go_wp2
      go_ret
      exact ⟨rfl, HL.out⟩


namespace machineCells
open Go.ChangeShapes Go.WideShapes Go.ChangeAt Go.RowKit
open Go.ChangeMaps (open_string shut_string)
theorem own : ownKnob Try.prog.godebug = none := by kernel_rfl
theorem laidOut : laidOutB Try.prog = true := by kernel_rfl
set_option maxRecDepth 100000 in
theorem lifted (os : Os) (started : os.Started) (H : Type) (enc : TypeId × Value → H) :
    ReturnsInHanded {} Try.checked os 3 .any (Rows.machineCellsSpec.pre6 enc Try.prog Try.f3 Rows.machineCellsRow.domain false) (Rows.machineCellsSpec.post enc Try.prog Try.f3 false true false false) := by
  refine returnsInHanded_of_change_sized (C := Try.checked) own started (by kernel_rfl) Try.func3
    (ChangeSpec.witness6 (enc := enc) (C := Try.checked) false ⟨#[], #[.agg #[.int .i64 0, .int .i64 0, .int .i64 0, .int .i64 0, .int .i64 0, .int .i64 0, .slice none 0 0, .slice none 0 0, .slice none 0 0, .slice none 0 0], .slice none 0 0, .slice none 0 0], []⟩ 8 (by kernel_rfl) (by kernel_rfl) (by kernel_rfl) (by kernel_rfl)) ?_
  intro W base args ds gs before hval0 hW _ hsz0 _
  have hval : ∀ (j : Nat) t v, Try.f3.params[j]? = some t → args[j]? = some v → Value.okWide Try.prog W .any base t v := hval0
  have hsz : (DataW.weightsEach Try.prog (Try.f3.params.toList ++ Rows.machineCellsSpec.plain.varTypes Try.prog) (ds ++ gs)).all (· ≤ reachBytes) = true := hsz0
  have hW' := hW
  obtain ⟨p, q, hA0, hV, rfl, hfz, hnd⟩ := hW
  have hA : DataW.TrodAll enc Try.prog W 0 (fun _ => true) true Try.f3.params.toList args.toList ds p := hA0
  rw [Try.params3] at hA hval hsz
  obtain ⟨v0, vs0, d0, ds0, p0, q0, hargs, rfl, rfl, h0, r0⟩ := trodAll_cons hA
  obtain ⟨v1, vs1, d1, ds1, p1, q1, rfl, rfl, rfl, h1, r1⟩ := trodAll_cons r0
  obtain ⟨v2, vs2, d2, ds2, p2, q2, rfl, rfl, rfl, h2, r2⟩ := trodAll_cons r1
  obtain ⟨rfl, rfl, rfl⟩ := trodAll_nil r2
  obtain rfl : args = #[v0, v1, v2] := by cases args; simp_all
  obtain ⟨rfl, rfl⟩ := trodVars_none hV
  have hw : ∀ (j : Nat) (t : TypeId) (d : DataW H), ([26, 22, 22] ++ Rows.machineCellsSpec.plain.varTypes Try.prog)[j]? = some t → ([d0, d1, d2] ++ [])[j]? = some d → ∀ n ∈ d.weights Try.prog t, n ≤ reachBytes := fun j t d ht hd n hn =>
    of_decide_eq_true (List.all_eq_true.1 hsz _ (DataW.weights_mem_each ht hd n hn))
  obtain ⟨cs0, rfl, hcs0⟩ := okWide_struct Try.underlying26 (hval 0 26 v0 rfl rfl)
  have lt0 : ∀ x ∈ p0, x.block < W.heap.size := by obtain ⟨m, hm⟩ := h0; exact DataW.trod_lt m _ _ _ hm
  obtain ⟨z0, s0, e0, in0⟩ := cd_in hcs0 h0
  subst e0
  have lt1 : ∀ x ∈ p1, x.block < W.heap.size := by obtain ⟨m, hm⟩ := h1; exact DataW.trod_lt m _ _ _ hm
  obtain ⟨ax1, nx1, cx1, rfl⟩ := okWide_slice Try.underlying22 (hval 1 22 v1 rfl rfl)
  obtain ⟨sl1, l1, e1, in1, jn1⟩ := ints_in h1
  obtain ⟨rfl, rfl, rfl⟩ : ax1 = sl1.a ∧ nx1 = sl1.n ∧ cx1 = sl1.c := by have e := e1; simp [Value.cells] at e; exact e
  have lt2 : ∀ x ∈ p2, x.block < W.heap.size := by obtain ⟨m, hm⟩ := h2; exact DataW.trod_lt m _ _ _ hm
  obtain ⟨ax2, nx2, cx2, rfl⟩ := okWide_slice Try.underlying22 (hval 2 22 v2 rfl rfl)
  obtain ⟨sl2, l2, e2, in2, jn2⟩ := ints_in h2
  obtain ⟨rfl, rfl, rfl⟩ : ax2 = sl2.a ∧ nx2 = sl2.n ∧ cx2 = sl2.c := by have e := e2; simp [Value.cells] at e; exact e
  clear hA0 hval0
  refine (mcells_walk z0 s0 sl1 l1 sl2 l2 W in0 in1 jn1 in2 jn2).mono fun e W' ⟨he, bel⟩ => ?_
  subst he
  exact ⟨_, rfl, _, _, _, [], _, [], hW', trodAll_mk1 (shut_bool Try.underlying4 _), (trodAll_cons_mk (Below.trod laidOut (by kernel_rfl) (of_decide_eq_true (by kernel_rfl)) h0 bel lt0) (trodAll_cons_mk (Below.trod laidOut (by kernel_rfl) (of_decide_eq_true (by kernel_rfl)) h1 bel lt1) (trodAll_cons_mk (Below.trod laidOut (by kernel_rfl) (of_decide_eq_true (by kernel_rfl)) h2 bel lt2) trodAll_mk0))), rfl, bel.frame _, fun h => by cases h⟩
end machineCells

theorem machineCells_holds : Rows.MachineCellsSaid :=
  OpenClaim.holds_of_wide 3 Try.f3 rfl rfl rfl rfl rfl rfl rfl ⟨rfl, rfl, rfl, rfl, rfl⟩ rfl rfl rfl rfl rfl (by kernel_rfl) Try.func3 (by kernel_rfl)
    (of_decide_eq_true (by kernel_rfl)) (by unfold Func.isWrapper; first | (rw [if_pos (by decide +kernel)]; kernel_rfl) | (rw [if_neg (by decide +kernel)]; exact ⟨rfl, rfl⟩))
    (fun os started H enc _ => machineCells.lifted os started H enc)

end Go.Proofs.Ytjpeoejielamiab
