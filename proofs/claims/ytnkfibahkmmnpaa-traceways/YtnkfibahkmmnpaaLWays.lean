/-
  The path can be gone back by ways that the table tells.
-/
import Derived.Test.YtnkfibahkmmnpaaTrZ
namespace Go.Proofs.Ytnkfibahkmmnpaa
open Go.RowKit

theorem wlk_yes {c : Cd} {x y : List Int} (h : (runM c x y).ends.found = true) : wlkF c x y = #[.int .i64 (runM c x y).ends.score, .int .i64 ((wayL c x y).2.1 : Int), .int .i64 ((wayL c x y).2.2 : Int), .string (colS (wayL c x y).1)] ∧ wlkE c x y = 0 := by
  unfold wlkF wlkE
  rw [h]
  exact ⟨rfl, rfl⟩
theorem wlk_no {c : Cd} {x y : List Int} (h : (runM c x y).ends.found = false) : wlkF c x y = #[.int .i64 0, .int .i64 0, .int .i64 0, .string ⟨#[]⟩] ∧ wlkE c x y = 130 := by
  unfold wlkF wlkE
  rw [h]
  exact ⟨rfl, rfl⟩
theorem wrap_id {z : Int} (h1 : -1000000 ≤ z) (h2 : z ≤ 1000000) : wrap64 z = z := by unfold wrap64; omega
theorem count_col (z : Int) (hz : z = 77 ∨ z = 68 ∨ z = 73) (l : List Int) (hl : ∀ a ∈ l, a = 77 ∨ a = 68 ∨ a = 73) : ((Lib.countByte (colS l).data.toList (u8O z) : Nat) : Int) = cntB z l := by
  have key : ∀ l : List Int, (∀ a ∈ l, a = 77 ∨ a = 68 ∨ a = 73) → (l.map u8O).count (u8O z) = (l.filter fun q => q == z).length := by
    intro l
    induction l with
    | nil => intro _; rfl
    | cons a l ih =>
      intro h
      rw [List.map_cons, List.count_cons, ih (fun b hb => h b (List.mem_cons_of_mem _ hb)), List.filter_cons]
      have e : (u8O a == u8O z) = (a == z) := by
        have ha := h a List.mem_cons_self
        rcases ha with rfl | rfl | rfl <;> rcases hz with rfl | rfl | rfl <;> rfl
      rw [e]
      cases (a == z) <;> simp
  unfold Lib.countByte cntB
  show ((((l.map u8O).reverse).toArray.toList.count (u8O z) : Nat) : Int) = _
  rw [List.toList_toArray, List.count_reverse, key l hl]
theorem ends_is {I J i j : Nat} {cols : List Int} (h : (i : Int) = I + cntB 77 cols + cntB 68 cols ∧ (j : Int) = J + cntB 77 cols + cntB 73 cols ∧ (∀ z ∈ cols, z = 77 ∨ z = 68 ∨ z = 73) ∧ cols.length ≤ i + j) (hi : i ≤ 65536) (hj : j ≤ 65536) :
    wrap64 (wrap64 ((I : Int) + ((Lib.countByte (colS cols).data.toList 77 : Nat) : Int)) + ((Lib.countByte (colS cols).data.toList 68 : Nat) : Int)) = (i : Int) ∧ wrap64 (wrap64 ((J : Int) + ((Lib.countByte (colS cols).data.toList 77 : Nat) : Int)) + ((Lib.countByte (colS cols).data.toList 73 : Nat) : Int)) = (j : Int) := by
  have e1 := count_col 77 (Or.inl rfl) cols h.2.2.1
  have e2 := count_col 68 (Or.inr (Or.inl rfl)) cols h.2.2.1
  have e3 := count_col 73 (Or.inr (Or.inr rfl)) cols h.2.2.1
  rw [show u8O 77 = 77 from rfl] at e1
  rw [show u8O 68 = 68 from rfl] at e2
  rw [show u8O 73 = 73 from rfl] at e3
  have n1 : 0 ≤ cntB 77 cols := by unfold cntB; exact Int.natCast_nonneg _
  have n2 : 0 ≤ cntB 68 cols := by unfold cntB; exact Int.natCast_nonneg _
  have n3 : 0 ≤ cntB 73 cols := by unfold cntB; exact Int.natCast_nonneg _
  rw [e1, e2, e3]
  obtain ⟨h1, h2, _, _⟩ := h
  clear e1 e2 e3
  generalize cntB 77 cols = a at *
  generalize cntB 68 cols = b at *
  generalize cntB 73 cols = d at *
  rw [show wrap64 ((I : Int) + a) = I + a from wrap_id (by omega) (by omega), show wrap64 ((J : Int) + a) = J + a from wrap_id (by omega) (by omega), show wrap64 ((I : Int) + a + b) = I + a + b from wrap_id (by omega) (by omega), show wrap64 ((J : Int) + a + d) = J + a + d from wrap_id (by omega) (by omega)]
  exact ⟨h1.symm, h2.symm⟩
set_option maxRecDepth 20000 in
set_option maxHeartbeats 8000000 in
theorem ways_walk (c : Cd) (s : Ls) (sx : Sl) (x : List Int) (sy : Sl) (y : List Int) (w : World) (hc : CdIn w c s) (hx : IntsAt w sx.a sx.n x) (_ : SlIn sx) (hy : IntsAt w sy.a sy.n y) (_ : SlIn sy) :
    Calls Try.prog 4 #[.agg (cdCells c s), .slice sx.a sx.n sx.c, .slice sy.a sy.n sy.c] w fun e w' => e = .returned (.bool true) ∧ Below w.heap.size w w' := by
  have HC : Hid (CdAt w c s ∧ IntsAt w sx.a sx.n x ∧ IntsAt w sy.a sy.n y) := ⟨hc.at', hx, hy⟩
  clear hc hx hy
  obtain ⟨xa, xn, xc⟩ := sx
  obtain ⟨ya, yn, yc⟩ := sy
  have H0 : Hid (Bo w (w.alloc (.cells (cdCells c s) 32)) (cdCells c s)) := ⟨below_new _, heap_alloc_new _ _⟩
  rw [show cdCells c s = #[.int .i64 c.letters, .int .i64 c.planes, .int .i64 c.regs, .int .i64 c.lo, .int .i64 c.hi, .int .i64 c.most, .slice s.t.a s.t.n s.t.c, .slice s.k.a s.k.n s.k.c, .slice s.i.a s.i.n s.i.c, .slice s.r.a s.r.n s.r.c] from rfl] at H0 ⊢
  go_enter Try.func4, Try.ntmps4
  go_wp2_with fail
  refine (small_calls c s ⟨xa, xn, xc⟩ ⟨ya, yn, yc⟩ x y _ (HC.out.1.below H0.out.low) (HC.out.2.1.below H0.out.low) (HC.out.2.2.below H0.out.low)).mono ?_
  rintro e w1 ⟨⟨b, rfl⟩, hb1⟩
  have H1 : Hid (Bo w w1 #[.int .i64 c.letters, .int .i64 c.planes, .int .i64 c.regs, .int .i64 c.lo, .int .i64 c.hi, .int .i64 c.most, .slice s.t.a s.t.n s.t.c, .slice s.k.a s.k.n s.k.c, .slice s.i.a s.i.n s.i.c, .slice s.r.a s.r.n s.r.c]) := H0.out.next hb1
  clear hb1 H0
  cases b
  · go_wp2
    go_ret
    exact ⟨rfl, H1.out.low⟩
  go_wp2_with fail
  refine (awake_calls _).mono ?_
  rintro e w2 ⟨rfl, hb2⟩
  have H2 : Hid (Bo w w2 #[.int .i64 c.letters, .int .i64 c.planes, .int .i64 c.regs, .int .i64 c.lo, .int .i64 c.hi, .int .i64 c.most, .slice s.t.a s.t.n s.t.c, .slice s.k.a s.k.n s.k.c, .slice s.i.a s.i.n s.i.c, .slice s.r.a s.r.n s.r.c]) := H1.out.next hb2
  clear hb2 H1
  have c0 := H2.out.cell 0 (v := .int .i64 c.letters) rfl
  have c1 := H2.out.cell 1 (v := .int .i64 c.planes) rfl
  have c2 := H2.out.cell 2 (v := .int .i64 c.regs) rfl
  have c3 := H2.out.cell 3 (v := .int .i64 c.lo) rfl
  have c4 := H2.out.cell 4 (v := .int .i64 c.hi) rfl
  have c5 := H2.out.cell 5 (v := .int .i64 c.most) rfl
  have c6 := H2.out.cell 6 (v := .slice s.t.a s.t.n s.t.c) rfl
  have c7 := H2.out.cell 7 (v := .slice s.k.a s.k.n s.k.c) rfl
  have c8 := H2.out.cell 8 (v := .slice s.i.a s.i.n s.i.c) rfl
  have c9 := H2.out.cell 9 (v := .slice s.r.a s.r.n s.r.c) rfl
  go_wp2_with fail
  refine (dcheck_calls c s _ (HC.out.1.below H2.out.low)).mono ?_
  rintro e w3 ⟨rfl, hb3⟩
  have H3 : Hid (Bo w w3 #[.int .i64 c.letters, .int .i64 c.planes, .int .i64 c.regs, .int .i64 c.lo, .int .i64 c.hi, .int .i64 c.most, .slice s.t.a s.t.n s.t.c, .slice s.k.a s.k.n s.k.c, .slice s.i.a s.i.n s.i.c, .slice s.r.a s.r.n s.r.c]) := H2.out.next hb3
  clear hb3 H2
  clear c0 c1 c2 c3 c4 c5 c6 c7 c8 c9
  obtain ⟨er, her⟩ : ∃ er, (chkB c).2 = er := ⟨_, rfl⟩
  obtain ⟨at1, hat⟩ : ∃ a, (chkB c).1 = a := ⟨_, rfl⟩
  have HEr : Hid ((chkB c).2 = er) := her
  rw [her, hat]
  clear her hat
  have c0 := H3.out.cell 0 (v := .int .i64 c.letters) rfl
  have c1 := H3.out.cell 1 (v := .int .i64 c.planes) rfl
  have c2 := H3.out.cell 2 (v := .int .i64 c.regs) rfl
  have c3 := H3.out.cell 3 (v := .int .i64 c.lo) rfl
  have c4 := H3.out.cell 4 (v := .int .i64 c.hi) rfl
  have c5 := H3.out.cell 5 (v := .int .i64 c.most) rfl
  have c6 := H3.out.cell 6 (v := .slice s.t.a s.t.n s.t.c) rfl
  have c7 := H3.out.cell 7 (v := .slice s.k.a s.k.n s.k.c) rfl
  have c8 := H3.out.cell 8 (v := .slice s.i.a s.i.n s.i.c) rfl
  have c9 := H3.out.cell 9 (v := .slice s.r.a s.r.n s.r.c) rfl
  go_wp2_with fail
  refine (run_calls c s ⟨xa, xn, xc⟩ ⟨ya, yn, yc⟩ x y _ (HC.out.1.below H3.out.low) (HC.out.2.1.below H3.out.low) (HC.out.2.2.below H3.out.low)).mono ?_
  rintro e w4 ⟨hb4, r, rfl, hr1, hr0⟩
  have H4 : Hid (Bo w w4 #[.int .i64 c.letters, .int .i64 c.planes, .int .i64 c.regs, .int .i64 c.lo, .int .i64 c.hi, .int .i64 c.most, .slice s.t.a s.t.n s.t.c, .slice s.k.a s.k.n s.k.c, .slice s.i.a s.i.n s.i.c, .slice s.r.a s.r.n s.r.c]) := H3.out.next hb4
  have HLe : Hid (w.heap.size ≤ w3.heap.size) := H3.out.low.size
  rw [HEr.out] at hr1 hr0 ⊢
  have HR1 : Hid (refB er c x y ≠ 0 → r = .pointer none) := hr1
  have HR0 : Hid (refB er c x y = 0 → ∃ g gs sa, r = .pointer (some ⟨g, 0, none⟩) ∧ (w3.heap.size ≤ g ∧ w3.heap.size ≤ gs) ∧ Tb w4 g gs c.planes.toNat x.length y.length sa (runM c x y).slots (runM c x y).ends (runM c x y).steps ∧
      w4.ownsRow w3.heap.size 86 4 (.slice sa.a sa.n sa.c) sa.n (qdVals c.arrows) ∧ sa.n = c.arrows.length) := hr0
  clear hb4 H3 hr1 hr0
  clear c0 c1 c2 c3 c4 c5 c6 c7 c8 c9
  obtain ⟨R, hR⟩ : ∃ R, refB er c x y = R := ⟨_, rfl⟩
  have HR : Hid (refB er c x y = R) := hR
  rw [hR] at HR1 HR0 ⊢
  clear hR
  by_cases h0 : er = 0
  rotate_left
  · have hd : (er != 0) = true := by simp [h0]
    have hRe : R = er := by rw [← HR.out]; unfold refB; rw [if_pos h0]
    subst hRe
    obtain rfl := HR1.out h0
    clear h0
    go_wp2
    go_ret
    exact ⟨rfl, H4.out.low⟩
  have hd : (er != 0) = false := by simp [h0]
  have HG : Hid (Gk c) := gk_of (HEr.out.trans h0)
  have H5 : Hid (R = 0 ∨ R = 170 ∨ R = 11 ∨ R = 131) := by
    show _ ∨ _
    rw [← HR.out]
    unfold refB
    rw [if_neg (fun h => h h0)]
    split
    · exact Or.inr (Or.inl rfl)
    split
    · exact Or.inr (Or.inr (Or.inl rfl))
    split
    · exact Or.inr (Or.inr (Or.inr rfl))
    · exact Or.inl rfl
  by_cases hR0 : R = 0
  rotate_left
  · obtain rfl := HR1.out hR0
    have h5 := H5.out
    have hRn : (R != 0) = true := by simp [hR0]
    clear h0 H5 HR0 HR1 h5 hR0
    go_wp2
    go_ret
    exact ⟨rfl, H4.out.low⟩
  obtain ⟨g, gs, sa, rfl, hge, hT, hO, hsn⟩ := HR0.out hR0
  have hrf := HR.out
  rw [hR0, ← HEr.out] at hrf
  have HXY : Hid (x.length ≤ 65536 ∧ y.length ≤ 65536) := by
    have h1 := (ref_0 hrf).2.1
    have h2 := HG.out.rt.most
    constructor <;> omega
  subst hR0
  have HT4 : Hid (Tb w4 g gs c.planes.toNat x.length y.length sa (runM c x y).slots (runM c x y).ends (runM c x y).steps ∧ QdsAt w4 sa.a sa.n c.arrows ∧ sa.n ≤ 100000) := ⟨hT, qds_owned hO, by have := HG.out.rt.alen; omega⟩
  clear hT hge hO hsn hrf HR0 HR1 H5 HR h0 HEr HLe HC
  go_wp2_with fail
  refine (best_calls HT4.out.1).mono ?_
  rintro e w5 ⟨ao, cap, rfl, ho, hb5⟩
  have H5 : Hid (Bo w w5 #[.int .i64 c.letters, .int .i64 c.planes, .int .i64 c.regs, .int .i64 c.lo, .int .i64 c.hi, .int .i64 c.most, .slice s.t.a s.t.n s.t.c, .slice s.k.a s.k.n s.k.c, .slice s.i.a s.i.n s.i.c, .slice s.r.a s.r.n s.r.c] ∧ Tb w5 g gs c.planes.toNat x.length y.length sa (runM c x y).slots (runM c x y).ends (runM c x y).steps ∧ QdsAt w5 sa.a sa.n c.arrows ∧ sa.n ≤ 100000 ∧ IntsAt w5 ao (risB (runM c x y).ends).length (risB (runM c x y).ends)) := ⟨H4.out.next hb5, HT4.out.1.next hb5, HT4.out.2.1.below hb5, HT4.out.2.2, ints_owned ho⟩
  clear ho hb5 H4 HT4
  go_wp2_with fail
  refine (walk_calls HG.out H5.out.2.1 H5.out.2.2.1 H5.out.2.2.2.1 HXY.out.1 HXY.out.2).mono ?_
  rintro e w6 ⟨rfl, hb6⟩
  have H6 : Hid (Bo w w6 #[.int .i64 c.letters, .int .i64 c.planes, .int .i64 c.regs, .int .i64 c.lo, .int .i64 c.hi, .int .i64 c.most, .slice s.t.a s.t.n s.t.c, .slice s.k.a s.k.n s.k.c, .slice s.i.a s.i.n s.i.c, .slice s.r.a s.r.n s.r.c] ∧ Tb w6 g gs c.planes.toNat x.length y.length sa (runM c x y).slots (runM c x y).ends (runM c x y).steps ∧ QdsAt w6 sa.a sa.n c.arrows ∧ IntsAt w6 ao (risB (runM c x y).ends).length (risB (runM c x y).ends)) := ⟨H5.out.1.next hb6, H5.out.2.1.next hb6, H5.out.2.2.1.below hb6, H5.out.2.2.2.2.below hb6⟩
  clear hb6 H5
  cases hf : (runM c x y).ends.found with
  | false =>
    rw [(wlk_no hf).1, (wlk_no hf).2]
    clear hf
    generalize (risB (runM c x y).ends).length = rl at *
    generalize (runM c x y).ends = E at *
    obtain ⟨e1, e2, e3, e4, e5⟩ := E
    go_wp2
    go_ret
    exact ⟨rfl, H6.out.1.low.alloc H6.out.1.low.size _⟩
  | true =>
    rw [(wlk_yes hf).1, (wlk_yes hf).2]
    obtain ⟨i, j, hi, hj, hix, hjy, hwk⟩ := wk_start HG.out hf
    have HWy : Hid (Wy c x y (wayL c x y).1 (wayL c x y).2.1 (wayL c x y).2.2 0 i j (setL (risB (runM c x y).ends))) := by
      have e1 : (runM c x y).ends.i.toNat = i := by omega
      have e2 : (runM c x y).ends.j.toNat = j := by omega
      show Wy _ _ _ _ _ _ _ _ _ _
      unfold wayL
      rw [e1, e2]
      exact Wy.start hwk
    have HEnd : Hid ((i : Int) = (wayL c x y).2.1 + cntB 77 (wayL c x y).1 + cntB 68 (wayL c x y).1 ∧ (j : Int) = (wayL c x y).2.2 + cntB 77 (wayL c x y).1 + cntB 73 (wayL c x y).1 ∧ (∀ z ∈ (wayL c x y).1, z = 77 ∨ z = 68 ∨ z = 73) ∧ (wayL c x y).1.length ≤ i + j) := by
      have e1 : (runM c x y).ends.i.toNat = i := by omega
      have e2 : (runM c x y).ends.j.toNat = j := by omega
      have := goW_ends HG.out (i + j + 1) i j _ hwk (by omega)
      unfold wayL
      rw [e1, e2]
      exact this
    have HRs : Hid (∀ p ∈ risB (runM c x y).ends, 0 ≤ p ∧ p < 10) := ris_small _
    have hnr10 : (risB (runM c x y).ends).length ≤ 10 := risL_len _ 10
    have hi65 : i ≤ 65536 := by have := HXY.out; omega
    have hj65 : j ≤ 65536 := by have := HXY.out; omega
    have hi' : (runM c x y).ends.i = (i : Int) := hi
    have hj' : (runM c x y).ends.j = (j : Int) := hj
    have HGo : Hid (∀ W (s : Nat → Bool) (i j : Nat) (st : Int), Below w6.heap.size w6 W → i ≤ 65536 → j ≤ 65536 → 1 ≤ st ∧ st ≤ 3 → Calls Try.prog 14 #[.pointer (some ⟨g, 0, none⟩), .agg (stC s (i : Int) (j : Int)), .int .u8 (colB st)] W fun r w' => r = .returned (.tuple #[.agg (stC (goL (maskB c x y i j) s st c.arrows).1 ((i : Int) - (backB st).1) ((j : Int) - (backB st).2)), .bool (goL (maskB c x y i j) s st c.arrows).2]) ∧ Below W.heap.size W w') := fun W s i j st hW h1 h2 h3 => goesR HG.out (H6.out.2.1.next hW) (H6.out.2.2.1.below hW) s i j h1 h2 st h3
    clear hwk hi hj hix hjy
    generalize risB (runM c x y).ends = rl at *
    rw [hi', hj']
    clear hi' hj' hf
    obtain ⟨nr, hnr⟩ : ∃ nr, rl.length = nr := ⟨_, rfl⟩
    have HNr : Hid (rl.length = nr) := hnr
    rw [hnr] at H6 hnr10 ⊢
    clear hnr
    generalize (runM c x y).ends.score = sc at *
    obtain ⟨cols, hcols⟩ : ∃ l, (wayL c x y).1 = l := ⟨_, rfl⟩
    obtain ⟨I, hI⟩ : ∃ l, (wayL c x y).2.1 = l := ⟨_, rfl⟩
    obtain ⟨J, hJ⟩ : ∃ l, (wayL c x y).2.2 = l := ⟨_, rfl⟩
    rw [hcols, hI, hJ] at HWy HEnd
    rw [hcols, hI, hJ]
    clear hcols hI hJ
    obtain ⟨str, hstr⟩ : ∃ str, colS cols = str := ⟨_, rfl⟩
    have HStr : Hid (colS cols = str) := hstr
    obtain ⟨nc, hnc⟩ : ∃ nc, cols.length = nc := ⟨_, rfl⟩
    have HNc : Hid (cols.length = nc) := hnc
    have hsz : str.size = nc := by rw [← hstr, colS_size, hnc]
    have hnc17 : nc ≤ 131072 := by have h1 : cols.length ≤ i + j := HEnd.out.2.2.2; have h2 := HNc.out; omega
    rw [hstr]
    clear hstr hnc
    have HB6 : Hid ((w6.alloc (.cells #[.int .i64 sc, .int .i64 (I : Int), .int .i64 (J : Int), .string str] 43)).heap[w6.heap.size]? = some (.cells #[.int .i64 sc, .int .i64 (I : Int), .int .i64 (J : Int), .string str] 43 (0, 0)) ∧ Below w6.heap.size w6 (w6.alloc (.cells #[.int .i64 sc, .int .i64 (I : Int), .int .i64 (J : Int), .string str] 43)) ∧ IntsAt (w6.alloc (.cells #[.int .i64 sc, .int .i64 (I : Int), .int .i64 (J : Int), .string str] 43)) ao nr rl ∧ Bo w (w6.alloc (.cells #[.int .i64 sc, .int .i64 (I : Int), .int .i64 (J : Int), .string str] 43)) #[.int .i64 c.letters, .int .i64 c.planes, .int .i64 c.regs, .int .i64 c.lo, .int .i64 c.hi, .int .i64 c.most, .slice s.t.a s.t.n s.t.c, .slice s.k.a s.k.n s.k.c, .slice s.i.a s.i.n s.i.c, .slice s.r.a s.r.n s.r.c]) := ⟨heap_alloc_new _ _, below_new _, H6.out.2.2.2.below (below_new _), H6.out.1.next (below_new _)⟩
    go_upto_region 13 with (fail)
    obtain ⟨w7a, hw7⟩ : ∃ w7a, w7a = w6.alloc (.cells #[.int .i64 sc, .int .i64 (I : Int), .int .i64 (J : Int), .string str] 43) := ⟨_, rfl⟩
    rw [← hw7] at HB6 ⊢
    clear hw7 H6
    have f0 := cell_block HB6.out.1 0 (.int .i64 sc) rfl
    have f1 := cell_block HB6.out.1 1 (.int .i64 (I : Int)) rfl
    have f2 := cell_block HB6.out.1 2 (.int .i64 (J : Int)) rfl
    have f3 := cell_block HB6.out.1 3 (.string str) rfl
    have HEI := ends_is HEnd.out hi65 hj65
    rw [HStr.out] at HEI
    have HEIh : Hid (_ ∧ _) := HEI
    clear HEI
    go_wp2_with fail
    refine (tend_calls (I : Int) (J : Int) str _).mono ?_
    rintro e w7 ⟨rfl, hb7⟩
    rw [HEIh.out.1, HEIh.out.2]
    have HB7 : Hid (w7.heap[w6.heap.size]? = some (.cells #[.int .i64 sc, .int .i64 (I : Int), .int .i64 (J : Int), .string str] 43 (0, 0)) ∧ Below w6.heap.size w6 w7 ∧ IntsAt w7 ao nr rl ∧ Bo w w7 #[.int .i64 c.letters, .int .i64 c.planes, .int .i64 c.regs, .int .i64 c.lo, .int .i64 c.hi, .int .i64 c.most, .slice s.t.a s.t.n s.t.c, .slice s.k.a s.k.n s.k.c, .slice s.i.a s.i.n s.i.c, .slice s.r.a s.r.n s.r.c]) := ⟨by rw [hb7.block _ (lt_block HB6.out.1)]; exact HB6.out.1, HB6.out.2.1.trans (hb7.mono HB6.out.2.1.size), HB6.out.2.2.1.below hb7, HB6.out.2.2.2.next hb7⟩
    clear hb7 HB6 f0 f1 f2 f3 HEIh
    have f0 := cell_block HB7.out.1 0 (.int .i64 sc) rfl
    have hss : (sc != sc) = false := by simp
    have HS0 : Hid (Sb w7 (w7.alloc (.cells #[.bool false, .bool false, .bool false, .bool false, .bool false, .bool false, .bool false, .bool false, .bool false, .bool false, .int .i64 (i : Int), .int .i64 (j : Int)] 48)) (fun _ => false) (i : Int) (j : Int)) := Sb.start w7 _ _
    have HZ : Hid (setL [] = fun _ => false) := rfl
    have hfb : w6.heap.size < w7.heap.size := lt_block HB7.out.1
    go_wp2_with fail
    generalize w7.alloc (.cells #[.bool false, .bool false, .bool false, .bool false, .bool false, .bool false, .bool false, .bool false, .bool false, .bool false, .int .i64 (i : Int), .int .i64 (j : Int)] 48) = wA at *
    go_loopg [6, 22] nr (fun q v6 kv wr => ∃ k : Nat, k + q = nr ∧ v6 = .bool false ∧ kv = .int .i64 k ∧ Hid (Sb w7 wr (setL (rl.take k)) (i : Int) (j : Int)))
    case atStart => exact ⟨0, by omega, rfl, rfl, by rw [List.take_zero, HZ.out]; exact HS0⟩
    case round =>
      clear HS0
      obtain ⟨k, hkq, rfl, rfl, HP⟩ := hrel
      by_cases hk : k < nr
      · have hd2 : decide ((k : Int) < (nr : Int)) = true := decide_eq_true (by omega)
        obtain ⟨lb, lo, hla, hlc⟩ := HB7.out.2.2.1.cells (by omega)
        have hlc := hlc k hk
        have e0 := cell_bl HP.out.low hlc
        have hkl : k < rl.length := by rw [HNr.out]; exact hk
        have hmem : rl.getD k 0 ∈ rl := by
          rw [List.getD_eq_getElem?_getD, List.getElem?_eq_getElem hkl]
          exact List.getElem_mem _
        have hr := HRs.out _ hmem
        have HTk : Hid (setL (rl.take (k + 1)) = putP (setL (rl.take k)) (rl.getD k 0).toNat) := by
          show _ = _
          rw [← setL_snoc, List.take_add_one, List.getElem?_eq_getElem hkl, List.getD_eq_getElem?_getD, List.getElem?_eq_getElem hkl]; rfl
        obtain ⟨p, hp⟩ : ∃ p : Nat, rl.getD k 0 = p := ⟨(rl.getD k 0).toNat, by omega⟩
        rw [hp] at e0 HTk hr
        simp only [Int.toNat_natCast] at HTk
        obtain rfl := hla
        clear hlc hmem hkl hp
        have hp10 : p < 10 := by omega
        have hp10i : (p : Int) < 10 := by omega
        have d1 : decide ((9 : Int) < (p : Int)) = false := decide_eq_false (by omega)
        have c0 := cell_block HP.out.box p (.bool (setL (rl.take k) p)) (stC_get _ _ _ hp10)
        have f0 := frozen_of_row _ _ p _ _ HP.out.box
        have HN2 : Hid (Sb w7 (wr.setCell ⟨w7.heap.size, p, none⟩ (.bool true)) (setL (rl.take (k + 1))) (i : Int) (j : Int)) := by
          show Sb _ _ _ _ _
          rw [HTk.out]; exact HP.out.put1 hp10
        have hgk : 0 < gk := by omega
        clear HP HTk
        go_wp2
        go_roundg (gk - 1)
        case rel => exact ⟨k + 1, by omega, rfl, by go_num, HN2⟩
        case measure => omega
      have hd2 : decide ((k : Int) < (nr : Int)) = false := decide_eq_false (by omega)
      have hkn : k = nr := by omega
      subst hkn
      have hlt2 : rl.take k = rl := by rw [← HNr.out]; exact List.take_length
      rw [hlt2] at HP
      clear hlt2
      have f3 := cell_bl HP.out.low (cell_block HB7.out.1 3 (.string str) rfl)
      go_wp2_with fail
      clear f3
      go_loopg [6, 23, 24, 25, 26] nc (fun q v6 nv _ _ _ wr => ∃ (k i j : Nat) (S : Nat → Bool), k + q = nc ∧ v6 = .bool false ∧ nv = .int .i64 ((nc : Int) - 1 - (k : Int)) ∧ i ≤ 65536 ∧ j ≤ 65536 ∧ Hid (Wy c x y cols I J k i j S ∧ Sb w7 wr S (i : Int) (j : Int)))
      case atStart => exact ⟨0, i, j, setL rl, by omega, rfl, by go_num, hi65, hj65, HWy.out, HP.out⟩
      case round =>
        clear HP HWy
        obtain ⟨k, u0, v0, S, hkq, rfl, rfl, hu65, hv65, HP⟩ := hrel
        have hlt := lt_block HP.out.2.box
        by_cases hk2 : k < nc
        rotate_left
        · obtain ⟨z0, zi, zj⟩ := HP.out.1.zero HG.out (by rw [HNc.out]; omega)
          have hk3 : k = nc := by have := hk2; omega
          have hn1 : (nc : Int) - 1 - (k : Int) = -1 := by omega
          rw [hn1]
          have c0 := cell_block HP.out.2.box 0 (.bool (S 0)) rfl
          have c1 := cell_block HP.out.2.box 1 (.bool (S 1)) rfl
          have c2 := cell_block HP.out.2.box 2 (.bool (S 2)) rfl
          have c3 := cell_block HP.out.2.box 3 (.bool (S 3)) rfl
          have c4 := cell_block HP.out.2.box 4 (.bool (S 4)) rfl
          have c5 := cell_block HP.out.2.box 5 (.bool (S 5)) rfl
          have c6 := cell_block HP.out.2.box 6 (.bool (S 6)) rfl
          have c7 := cell_block HP.out.2.box 7 (.bool (S 7)) rfl
          have c8 := cell_block HP.out.2.box 8 (.bool (S 8)) rfl
          have c9 := cell_block HP.out.2.box 9 (.bool (S 9)) rfl
          have c10 := cell_block HP.out.2.box 10 (.int .i64 (u0 : Int)) rfl
          have c11 := cell_block HP.out.2.box 11 (.int .i64 (v0 : Int)) rfl
          have f1 := cell_bl HP.out.2.low (cell_block HB7.out.1 1 (.int .i64 (I : Int)) rfl)
          have f2 := cell_bl HP.out.2.low (cell_block HB7.out.1 2 (.int .i64 (J : Int)) rfl)
          subst zi
          subst zj
          rw [z0] at c0
          have HL : Hid (Below w.heap.size w wr) := HB7.out.2.2.2.low.trans (HP.out.2.low.mono HB7.out.2.2.2.low.size)
          clear hk3 hn1 HP
          go_wp2
          go_ret
          exact ⟨rfl, HL.out⟩
        have z0 := HP.out.1.going (show k < cols.length by rw [HNc.out]; exact hk2)
        obtain ⟨q, hq⟩ : ∃ q : Nat, (nc : Int) - 1 - (k : Int) = (q : Int) := ⟨nc - 1 - k, by omega⟩
        rw [hq]
        have hqk : q + k + 1 = nc := by omega
        obtain ⟨hm1, hm2, hm3, u, v, hu, hv, hlt2, hwy⟩ := HP.out.1.more HG.out z0
        obtain ⟨hg1, hg2⟩ := HP.out.1.wk.goes HG.out z0
        have hix : ∀ W, (Instr.index 9 (.string str) (.int .i64 (q : Int))).run Try.prog W = .ok (.int .u8 (colB (leastAt c x y u0 v0 S).1)) W := fun W => by
          rw [← hm2]
          exact run_col cols k q hm1 (by rw [HNc.out]; exact hqk) (by rw [hm2]; exact col_is _) str HStr.out W
        have HW2 : Hid (Wy c x y cols I J (k + 1) u v (leastAt c x y u0 v0 S).2) := hwy
        have HU : Hid ((u : Int) = u0 - (backB (leastAt c x y u0 v0 S).1).1 ∧ (v : Int) = v0 - (backB (leastAt c x y u0 v0 S).1).2) := ⟨hu, hv⟩
        have hu65 : u ≤ 65536 := by rcases back_lex hm3 with ⟨t1, t2⟩ | ⟨t1, t2⟩ | ⟨t1, t2⟩ <;> omega
        have hv65b : v ≤ 65536 := by rcases back_lex hm3 with ⟨t1, t2⟩ | ⟨t1, t2⟩ | ⟨t1, t2⟩ <;> omega
        have HIn : Hid (c.lo ≤ (v : Int) - u ∧ (v : Int) - u ≤ c.hi) := by
          show _ ∧ _
          obtain ⟨p, hp⟩ := hwy.wk.some'
          have := has_run HG.out (hwy.wk.has p hp)
          unfold inBd at this
          simpa using this
        have HGs : Hid (goL (maskB c x y u0 v0) S (leastAt c x y u0 v0 S).1 c.arrows = ((leastAt c x y u0 v0 S).2, true) ∧ ∀ st : Int, st < (leastAt c x y u0 v0 S).1 → (goL (maskB c x y u0 v0) S st c.arrows).2 = false) := ⟨hg1, hg2⟩
        have f3 := cell_bl HP.out.2.low (cell_block HB7.out.1 3 (.string str) rfl)
        have HS : Hid (Sb w7 wr S (u0 : Int) (v0 : Int)) := HP.out.2
        have hgk : 0 < gk := by omega
        have hwq : (q : Int) - 1 = (nc : Int) - 1 - ((k + 1 : Nat) : Int) := by omega
        have HWq : Hid ((q : Int) - 1 = (nc : Int) - 1 - ((k + 1 : Nat) : Int)) := hwq
        have hq17 : q ≤ 131072 := by omega
        clear hm1 hm2 hu hv hwy hlt2 hg1 hg2 HP hq hwq hqk
        generalize leastAt c x y u0 v0 S = R at *
        obtain ⟨st, r⟩ := R
        simp only at HW2 HU HGs hix hm3
        have hu065 : u0 ≤ 65536 := by omega
        have hv065 : v0 ≤ 65536 := by omega
        have hlo : decide ((v : Int) - u < c.lo) = false := decide_eq_false (by have := HIn.out; omega)
        have hhi : decide (c.hi < (v : Int) - u) = false := decide_eq_false (by have := HIn.out; omega)
        have HLo : Hid (∀ W, Below w7.heap.size w7 W → W.cell? ⟨w.heap.size, 3, none⟩ = some (.int .i64 c.lo) ∧ W.cell? ⟨w.heap.size, 4, none⟩ = some (.int .i64 c.hi)) := fun W hW => ⟨cell_bl hW (HB7.out.2.2.2.cell 3 (v := .int .i64 c.lo) rfl), cell_bl hW (HB7.out.2.2.2.cell 4 (v := .int .i64 c.hi) rfl)⟩
        have c0 := cell_block HS.out.box 0 (.bool (S 0)) rfl
        have c1 := cell_block HS.out.box 1 (.bool (S 1)) rfl
        have c2 := cell_block HS.out.box 2 (.bool (S 2)) rfl
        have c3 := cell_block HS.out.box 3 (.bool (S 3)) rfl
        have c4 := cell_block HS.out.box 4 (.bool (S 4)) rfl
        have c5 := cell_block HS.out.box 5 (.bool (S 5)) rfl
        have c6 := cell_block HS.out.box 6 (.bool (S 6)) rfl
        have c7 := cell_block HS.out.box 7 (.bool (S 7)) rfl
        have c8 := cell_block HS.out.box 8 (.bool (S 8)) rfl
        have c9 := cell_block HS.out.box 9 (.bool (S 9)) rfl
        have c10 := cell_block HS.out.box 10 (.int .i64 (u0 : Int)) rfl
        have c11 := cell_block HS.out.box 11 (.int .i64 (v0 : Int)) rfl
        rw [z0] at c0
        have HGo3 : Hid (∀ W, Below w6.heap.size w6 W → Calls Try.prog 14 #[.pointer (some ⟨g, 0, none⟩), .agg #[.bool false, .bool (S 1), .bool (S 2), .bool (S 3), .bool (S 4), .bool (S 5), .bool (S 6), .bool (S 7), .bool (S 8), .bool (S 9), .int .i64 (u0 : Int), .int .i64 (v0 : Int)], .int .u8 (colB st)] W fun z w' => z = .returned (.tuple #[.agg #[.bool (r 0), .bool (r 1), .bool (r 2), .bool (r 3), .bool (r 4), .bool (r 5), .bool (r 6), .bool (r 7), .bool (r 8), .bool (r 9), .int .i64 (u : Int), .int .i64 (v : Int)], .bool true]) ∧ Below W.heap.size W w') := fun W hW => by
          have := HGo.out W S u0 v0 st hW hu065 hv065 hm3
          rw [HGs.out.1, ← HU.out.1, ← HU.out.2] at this
          rw [← z0]; exact this
        clear HGs z0 HU HIn
        have hst : st = 1 ∨ st = 2 ∨ st = 3 := by omega
        clear hm3
        rcases hst with hst | hst | hst
        · subst hst
          have hcol : colB 1 = 77 := rfl
          rw [hcol] at HGo3 hix
          clear hcol
          go_wp2_with fail
          refine (HGo3.out _ (HB7.out.2.1.trans (HS.out.low.mono HB7.out.2.1.size))).mono ?_
          rintro e w10 ⟨rfl, hb10⟩
          have HS10 : Hid (Sb w7 (w10.alloc (.cells #[.bool (r 0), .bool (r 1), .bool (r 2), .bool (r 3), .bool (r 4), .bool (r 5), .bool (r 6), .bool (r 7), .bool (r 8), .bool (r 9), .int .i64 (u : Int), .int .i64 (v : Int)] 48)) S (u0 : Int) (v0 : Int) ∧ (w10.alloc (.cells #[.bool (r 0), .bool (r 1), .bool (r 2), .bool (r 3), .bool (r 4), .bool (r 5), .bool (r 6), .bool (r 7), .bool (r 8), .bool (r 9), .int .i64 (u : Int), .int .i64 (v : Int)] 48)).heap[w10.heap.size]? = some (.cells #[.bool (r 0), .bool (r 1), .bool (r 2), .bool (r 3), .bool (r 4), .bool (r 5), .bool (r 6), .bool (r 7), .bool (r 8), .bool (r 9), .int .i64 (u : Int), .int .i64 (v : Int)] 48 (0, 0))) := ⟨(HS.out.next hb10).next (below_new _), heap_alloc_new _ _⟩
          have hl10 : Below w7.heap.size w7 w10 := HS.out.low.trans (hb10.mono HS.out.low.size)
          obtain ⟨l3, l4⟩ := HLo.out _ hl10
          have hwl : w.heap.size < w10.heap.size := by have h1 := lt_block HB7.out.2.2.2.box; have h2 := hl10.size; omega
          clear hb10 HS HGo3 hl10 f3 hix
          clear c0 c1 c2 c3 c4 c5 c6 c7 c8 c9 c10 c11
          go_upto_region 32 with (fail)
          obtain ⟨wz, hwz⟩ : ∃ wz, wz = w10.alloc (.cells #[.bool (r 0), .bool (r 1), .bool (r 2), .bool (r 3), .bool (r 4), .bool (r 5), .bool (r 6), .bool (r 7), .bool (r 8), .bool (r 9), .int .i64 (u : Int), .int .i64 (v : Int)] 48) := ⟨_, rfl⟩
          rw [← hwz] at HS10 ⊢
          clear hwz l3 l4
          have HN3 : Hid (Sb w7 (stored wz w7.heap.size r (u : Int) (v : Int)) r (u : Int) (v : Int)) := HS10.out.1.all r _ _
          unfold stored at HN3
          have c0 := cell_block HS10.out.1.box 0 (.bool (S 0)) rfl
          have c1 := cell_block HS10.out.1.box 1 (.bool (S 1)) rfl
          have c2 := cell_block HS10.out.1.box 2 (.bool (S 2)) rfl
          have c3 := cell_block HS10.out.1.box 3 (.bool (S 3)) rfl
          have c4 := cell_block HS10.out.1.box 4 (.bool (S 4)) rfl
          have c5 := cell_block HS10.out.1.box 5 (.bool (S 5)) rfl
          have c6 := cell_block HS10.out.1.box 6 (.bool (S 6)) rfl
          have c7 := cell_block HS10.out.1.box 7 (.bool (S 7)) rfl
          have c8 := cell_block HS10.out.1.box 8 (.bool (S 8)) rfl
          have c9 := cell_block HS10.out.1.box 9 (.bool (S 9)) rfl
          have c10 := cell_block HS10.out.1.box 10 (.int .i64 (u0 : Int)) rfl
          have c11 := cell_block HS10.out.1.box 11 (.int .i64 (v0 : Int)) rfl
          have cf0 := frozen_of_row _ _ 0 _ _ HS10.out.1.box
          have cf1 := frozen_of_row _ _ 1 _ _ HS10.out.1.box
          have cf2 := frozen_of_row _ _ 2 _ _ HS10.out.1.box
          have cf3 := frozen_of_row _ _ 3 _ _ HS10.out.1.box
          have cf4 := frozen_of_row _ _ 4 _ _ HS10.out.1.box
          have cf5 := frozen_of_row _ _ 5 _ _ HS10.out.1.box
          have cf6 := frozen_of_row _ _ 6 _ _ HS10.out.1.box
          have cf7 := frozen_of_row _ _ 7 _ _ HS10.out.1.box
          have cf8 := frozen_of_row _ _ 8 _ _ HS10.out.1.box
          have cf9 := frozen_of_row _ _ 9 _ _ HS10.out.1.box
          have cf10 := frozen_of_row _ _ 10 _ _ HS10.out.1.box
          have cf11 := frozen_of_row _ _ 11 _ _ HS10.out.1.box
          have x0 := cell_block HS10.out.2 0 (.bool (r 0)) rfl
          have x1 := cell_block HS10.out.2 1 (.bool (r 1)) rfl
          have x2 := cell_block HS10.out.2 2 (.bool (r 2)) rfl
          have x3 := cell_block HS10.out.2 3 (.bool (r 3)) rfl
          have x4 := cell_block HS10.out.2 4 (.bool (r 4)) rfl
          have x5 := cell_block HS10.out.2 5 (.bool (r 5)) rfl
          have x6 := cell_block HS10.out.2 6 (.bool (r 6)) rfl
          have x7 := cell_block HS10.out.2 7 (.bool (r 7)) rfl
          have x8 := cell_block HS10.out.2 8 (.bool (r 8)) rfl
          have x9 := cell_block HS10.out.2 9 (.bool (r 9)) rfl
          have x10 := cell_block HS10.out.2 10 (.int .i64 (u : Int)) rfl
          have x11 := cell_block HS10.out.2 11 (.int .i64 (v : Int)) rfl
          clear HS10
          go_wp2
          go_roundg (gk - 1)
          case rel => exact ⟨k + 1, u, v, r, by omega, rfl, by rw [← HWq.out], hu65, hv65b, HW2.out, HN3.out⟩
          case measure => omega
        · subst hst
          have hcol : colB 2 = 68 := rfl
          rw [hcol] at HGo3 hix
          clear hcol
          go_wp2_with fail
          refine (HGo3.out _ (HB7.out.2.1.trans (HS.out.low.mono HB7.out.2.1.size))).mono ?_
          rintro e w10 ⟨rfl, hb10⟩
          have HS10 : Hid (Sb w7 (w10.alloc (.cells #[.bool (r 0), .bool (r 1), .bool (r 2), .bool (r 3), .bool (r 4), .bool (r 5), .bool (r 6), .bool (r 7), .bool (r 8), .bool (r 9), .int .i64 (u : Int), .int .i64 (v : Int)] 48)) S (u0 : Int) (v0 : Int) ∧ (w10.alloc (.cells #[.bool (r 0), .bool (r 1), .bool (r 2), .bool (r 3), .bool (r 4), .bool (r 5), .bool (r 6), .bool (r 7), .bool (r 8), .bool (r 9), .int .i64 (u : Int), .int .i64 (v : Int)] 48)).heap[w10.heap.size]? = some (.cells #[.bool (r 0), .bool (r 1), .bool (r 2), .bool (r 3), .bool (r 4), .bool (r 5), .bool (r 6), .bool (r 7), .bool (r 8), .bool (r 9), .int .i64 (u : Int), .int .i64 (v : Int)] 48 (0, 0))) := ⟨(HS.out.next hb10).next (below_new _), heap_alloc_new _ _⟩
          have hl10 : Below w7.heap.size w7 w10 := HS.out.low.trans (hb10.mono HS.out.low.size)
          obtain ⟨l3, l4⟩ := HLo.out _ hl10
          have hwl : w.heap.size < w10.heap.size := by have h1 := lt_block HB7.out.2.2.2.box; have h2 := hl10.size; omega
          clear hb10 HS HGo3 hl10 f3 hix
          clear c0 c1 c2 c3 c4 c5 c6 c7 c8 c9 c10 c11
          go_upto_region 32 with (fail)
          obtain ⟨wz, hwz⟩ : ∃ wz, wz = w10.alloc (.cells #[.bool (r 0), .bool (r 1), .bool (r 2), .bool (r 3), .bool (r 4), .bool (r 5), .bool (r 6), .bool (r 7), .bool (r 8), .bool (r 9), .int .i64 (u : Int), .int .i64 (v : Int)] 48) := ⟨_, rfl⟩
          rw [← hwz] at HS10 ⊢
          clear hwz l3 l4
          have HN3 : Hid (Sb w7 (stored wz w7.heap.size r (u : Int) (v : Int)) r (u : Int) (v : Int)) := HS10.out.1.all r _ _
          unfold stored at HN3
          have c0 := cell_block HS10.out.1.box 0 (.bool (S 0)) rfl
          have c1 := cell_block HS10.out.1.box 1 (.bool (S 1)) rfl
          have c2 := cell_block HS10.out.1.box 2 (.bool (S 2)) rfl
          have c3 := cell_block HS10.out.1.box 3 (.bool (S 3)) rfl
          have c4 := cell_block HS10.out.1.box 4 (.bool (S 4)) rfl
          have c5 := cell_block HS10.out.1.box 5 (.bool (S 5)) rfl
          have c6 := cell_block HS10.out.1.box 6 (.bool (S 6)) rfl
          have c7 := cell_block HS10.out.1.box 7 (.bool (S 7)) rfl
          have c8 := cell_block HS10.out.1.box 8 (.bool (S 8)) rfl
          have c9 := cell_block HS10.out.1.box 9 (.bool (S 9)) rfl
          have c10 := cell_block HS10.out.1.box 10 (.int .i64 (u0 : Int)) rfl
          have c11 := cell_block HS10.out.1.box 11 (.int .i64 (v0 : Int)) rfl
          have cf0 := frozen_of_row _ _ 0 _ _ HS10.out.1.box
          have cf1 := frozen_of_row _ _ 1 _ _ HS10.out.1.box
          have cf2 := frozen_of_row _ _ 2 _ _ HS10.out.1.box
          have cf3 := frozen_of_row _ _ 3 _ _ HS10.out.1.box
          have cf4 := frozen_of_row _ _ 4 _ _ HS10.out.1.box
          have cf5 := frozen_of_row _ _ 5 _ _ HS10.out.1.box
          have cf6 := frozen_of_row _ _ 6 _ _ HS10.out.1.box
          have cf7 := frozen_of_row _ _ 7 _ _ HS10.out.1.box
          have cf8 := frozen_of_row _ _ 8 _ _ HS10.out.1.box
          have cf9 := frozen_of_row _ _ 9 _ _ HS10.out.1.box
          have cf10 := frozen_of_row _ _ 10 _ _ HS10.out.1.box
          have cf11 := frozen_of_row _ _ 11 _ _ HS10.out.1.box
          have x0 := cell_block HS10.out.2 0 (.bool (r 0)) rfl
          have x1 := cell_block HS10.out.2 1 (.bool (r 1)) rfl
          have x2 := cell_block HS10.out.2 2 (.bool (r 2)) rfl
          have x3 := cell_block HS10.out.2 3 (.bool (r 3)) rfl
          have x4 := cell_block HS10.out.2 4 (.bool (r 4)) rfl
          have x5 := cell_block HS10.out.2 5 (.bool (r 5)) rfl
          have x6 := cell_block HS10.out.2 6 (.bool (r 6)) rfl
          have x7 := cell_block HS10.out.2 7 (.bool (r 7)) rfl
          have x8 := cell_block HS10.out.2 8 (.bool (r 8)) rfl
          have x9 := cell_block HS10.out.2 9 (.bool (r 9)) rfl
          have x10 := cell_block HS10.out.2 10 (.int .i64 (u : Int)) rfl
          have x11 := cell_block HS10.out.2 11 (.int .i64 (v : Int)) rfl
          clear HS10
          go_wp2
          go_roundg (gk - 1)
          case rel => exact ⟨k + 1, u, v, r, by omega, rfl, by rw [← HWq.out], hu65, hv65b, HW2.out, HN3.out⟩
          case measure => omega
        · subst hst
          have hcol : colB 3 = 73 := rfl
          rw [hcol] at HGo3 hix
          clear hcol
          go_wp2_with fail
          refine (HGo3.out _ (HB7.out.2.1.trans (HS.out.low.mono HB7.out.2.1.size))).mono ?_
          rintro e w10 ⟨rfl, hb10⟩
          have HS10 : Hid (Sb w7 (w10.alloc (.cells #[.bool (r 0), .bool (r 1), .bool (r 2), .bool (r 3), .bool (r 4), .bool (r 5), .bool (r 6), .bool (r 7), .bool (r 8), .bool (r 9), .int .i64 (u : Int), .int .i64 (v : Int)] 48)) S (u0 : Int) (v0 : Int) ∧ (w10.alloc (.cells #[.bool (r 0), .bool (r 1), .bool (r 2), .bool (r 3), .bool (r 4), .bool (r 5), .bool (r 6), .bool (r 7), .bool (r 8), .bool (r 9), .int .i64 (u : Int), .int .i64 (v : Int)] 48)).heap[w10.heap.size]? = some (.cells #[.bool (r 0), .bool (r 1), .bool (r 2), .bool (r 3), .bool (r 4), .bool (r 5), .bool (r 6), .bool (r 7), .bool (r 8), .bool (r 9), .int .i64 (u : Int), .int .i64 (v : Int)] 48 (0, 0))) := ⟨(HS.out.next hb10).next (below_new _), heap_alloc_new _ _⟩
          have hl10 : Below w7.heap.size w7 w10 := HS.out.low.trans (hb10.mono HS.out.low.size)
          obtain ⟨l3, l4⟩ := HLo.out _ hl10
          have hwl : w.heap.size < w10.heap.size := by have h1 := lt_block HB7.out.2.2.2.box; have h2 := hl10.size; omega
          clear hb10 HS HGo3 hl10 f3 hix
          clear c0 c1 c2 c3 c4 c5 c6 c7 c8 c9 c10 c11
          go_upto_region 32 with (fail)
          obtain ⟨wz, hwz⟩ : ∃ wz, wz = w10.alloc (.cells #[.bool (r 0), .bool (r 1), .bool (r 2), .bool (r 3), .bool (r 4), .bool (r 5), .bool (r 6), .bool (r 7), .bool (r 8), .bool (r 9), .int .i64 (u : Int), .int .i64 (v : Int)] 48) := ⟨_, rfl⟩
          rw [← hwz] at HS10 ⊢
          clear hwz l3 l4
          have HN3 : Hid (Sb w7 (stored wz w7.heap.size r (u : Int) (v : Int)) r (u : Int) (v : Int)) := HS10.out.1.all r _ _
          unfold stored at HN3
          have c0 := cell_block HS10.out.1.box 0 (.bool (S 0)) rfl
          have c1 := cell_block HS10.out.1.box 1 (.bool (S 1)) rfl
          have c2 := cell_block HS10.out.1.box 2 (.bool (S 2)) rfl
          have c3 := cell_block HS10.out.1.box 3 (.bool (S 3)) rfl
          have c4 := cell_block HS10.out.1.box 4 (.bool (S 4)) rfl
          have c5 := cell_block HS10.out.1.box 5 (.bool (S 5)) rfl
          have c6 := cell_block HS10.out.1.box 6 (.bool (S 6)) rfl
          have c7 := cell_block HS10.out.1.box 7 (.bool (S 7)) rfl
          have c8 := cell_block HS10.out.1.box 8 (.bool (S 8)) rfl
          have c9 := cell_block HS10.out.1.box 9 (.bool (S 9)) rfl
          have c10 := cell_block HS10.out.1.box 10 (.int .i64 (u0 : Int)) rfl
          have c11 := cell_block HS10.out.1.box 11 (.int .i64 (v0 : Int)) rfl
          have cf0 := frozen_of_row _ _ 0 _ _ HS10.out.1.box
          have cf1 := frozen_of_row _ _ 1 _ _ HS10.out.1.box
          have cf2 := frozen_of_row _ _ 2 _ _ HS10.out.1.box
          have cf3 := frozen_of_row _ _ 3 _ _ HS10.out.1.box
          have cf4 := frozen_of_row _ _ 4 _ _ HS10.out.1.box
          have cf5 := frozen_of_row _ _ 5 _ _ HS10.out.1.box
          have cf6 := frozen_of_row _ _ 6 _ _ HS10.out.1.box
          have cf7 := frozen_of_row _ _ 7 _ _ HS10.out.1.box
          have cf8 := frozen_of_row _ _ 8 _ _ HS10.out.1.box
          have cf9 := frozen_of_row _ _ 9 _ _ HS10.out.1.box
          have cf10 := frozen_of_row _ _ 10 _ _ HS10.out.1.box
          have cf11 := frozen_of_row _ _ 11 _ _ HS10.out.1.box
          have x0 := cell_block HS10.out.2 0 (.bool (r 0)) rfl
          have x1 := cell_block HS10.out.2 1 (.bool (r 1)) rfl
          have x2 := cell_block HS10.out.2 2 (.bool (r 2)) rfl
          have x3 := cell_block HS10.out.2 3 (.bool (r 3)) rfl
          have x4 := cell_block HS10.out.2 4 (.bool (r 4)) rfl
          have x5 := cell_block HS10.out.2 5 (.bool (r 5)) rfl
          have x6 := cell_block HS10.out.2 6 (.bool (r 6)) rfl
          have x7 := cell_block HS10.out.2 7 (.bool (r 7)) rfl
          have x8 := cell_block HS10.out.2 8 (.bool (r 8)) rfl
          have x9 := cell_block HS10.out.2 9 (.bool (r 9)) rfl
          have x10 := cell_block HS10.out.2 10 (.int .i64 (u : Int)) rfl
          have x11 := cell_block HS10.out.2 11 (.int .i64 (v : Int)) rfl
          clear HS10
          go_wp2
          go_roundg (gk - 1)
          case rel => exact ⟨k + 1, u, v, r, by omega, rfl, by rw [← HWq.out], hu65, hv65b, HW2.out, HN3.out⟩
          case measure => omega


namespace traceWays
open Go.ChangeShapes Go.WideShapes Go.ChangeAt Go.RowKit
open Go.ChangeMaps (open_string shut_string)
theorem own : ownKnob Try.prog.godebug = none := by kernel_rfl
theorem laidOut : laidOutB Try.prog = true := by kernel_rfl
set_option maxRecDepth 100000 in
theorem lifted (os : Os) (started : os.Started) (H : Type) (enc : TypeId × Value → H) :
    ReturnsInHanded {} Try.checked os 4 .any (Rows.traceWaysSpec.pre6 enc Try.prog Try.f4 Rows.traceWaysRow.domain false) (Rows.traceWaysSpec.post enc Try.prog Try.f4 false true false false) := by
  refine returnsInHanded_of_change_sized (C := Try.checked) own started (by kernel_rfl) Try.func4
    (ChangeSpec.witness6 (enc := enc) (C := Try.checked) false ⟨#[], #[.agg #[.int .i64 0, .int .i64 0, .int .i64 0, .int .i64 0, .int .i64 0, .int .i64 0, .slice none 0 0, .slice none 0 0, .slice none 0 0, .slice none 0 0], .slice none 0 0, .slice none 0 0], []⟩ 8 (by kernel_rfl) (by kernel_rfl) (by kernel_rfl) (by kernel_rfl)) ?_
  intro W base args ds gs before hval0 hW _ hsz0 _
  have hval : ∀ (j : Nat) t v, Try.f4.params[j]? = some t → args[j]? = some v → Value.okWide Try.prog W .any base t v := hval0
  have hsz : (DataW.weightsEach Try.prog (Try.f4.params.toList ++ Rows.traceWaysSpec.plain.varTypes Try.prog) (ds ++ gs)).all (· ≤ reachBytes) = true := hsz0
  have hW' := hW
  obtain ⟨p, q, hA0, hV, rfl, hfz, hnd⟩ := hW
  have hA : DataW.TrodAll enc Try.prog W 0 (fun _ => true) true Try.f4.params.toList args.toList ds p := hA0
  rw [Try.params4] at hA hval hsz
  obtain ⟨v0, vs0, d0, ds0, p0, q0, hargs, rfl, rfl, h0, r0⟩ := trodAll_cons hA
  obtain ⟨v1, vs1, d1, ds1, p1, q1, rfl, rfl, rfl, h1, r1⟩ := trodAll_cons r0
  obtain ⟨v2, vs2, d2, ds2, p2, q2, rfl, rfl, rfl, h2, r2⟩ := trodAll_cons r1
  obtain ⟨rfl, rfl, rfl⟩ := trodAll_nil r2
  obtain rfl : args = #[v0, v1, v2] := by cases args; simp_all
  obtain ⟨rfl, rfl⟩ := trodVars_none hV
  have hw : ∀ (j : Nat) (t : TypeId) (d : DataW H), ([32, 28, 28] ++ Rows.traceWaysSpec.plain.varTypes Try.prog)[j]? = some t → ([d0, d1, d2] ++ [])[j]? = some d → ∀ n ∈ d.weights Try.prog t, n ≤ reachBytes := fun j t d ht hd n hn =>
    of_decide_eq_true (List.all_eq_true.1 hsz _ (DataW.weights_mem_each ht hd n hn))
  obtain ⟨cs0, rfl, hcs0⟩ := okWide_struct Try.underlying32 (hval 0 32 v0 rfl rfl)
  have lt0 : ∀ x ∈ p0, x.block < W.heap.size := by obtain ⟨m, hm⟩ := h0; exact DataW.trod_lt m _ _ _ hm
  obtain ⟨z0, s0, e0, in0⟩ := cd_in hcs0 h0
  subst e0
  have lt1 : ∀ x ∈ p1, x.block < W.heap.size := by obtain ⟨m, hm⟩ := h1; exact DataW.trod_lt m _ _ _ hm
  obtain ⟨ax1, nx1, cx1, rfl⟩ := okWide_slice Try.underlying28 (hval 1 28 v1 rfl rfl)
  obtain ⟨sl1, l1, e1, in1, jn1⟩ := ints_in h1
  obtain ⟨rfl, rfl, rfl⟩ : ax1 = sl1.a ∧ nx1 = sl1.n ∧ cx1 = sl1.c := by have e := e1; simp [Value.cells] at e; exact e
  have lt2 : ∀ x ∈ p2, x.block < W.heap.size := by obtain ⟨m, hm⟩ := h2; exact DataW.trod_lt m _ _ _ hm
  obtain ⟨ax2, nx2, cx2, rfl⟩ := okWide_slice Try.underlying28 (hval 2 28 v2 rfl rfl)
  obtain ⟨sl2, l2, e2, in2, jn2⟩ := ints_in h2
  obtain ⟨rfl, rfl, rfl⟩ : ax2 = sl2.a ∧ nx2 = sl2.n ∧ cx2 = sl2.c := by have e := e2; simp [Value.cells] at e; exact e
  clear hA0 hval0
  refine (ways_walk z0 s0 sl1 l1 sl2 l2 W in0 in1 jn1 in2 jn2).mono fun e W' ⟨he, bel⟩ => ?_
  subst he
  exact ⟨_, rfl, _, _, _, [], _, [], hW', trodAll_mk1 (shut_bool Try.underlying4 _), (trodAll_cons_mk (Below.trod laidOut (by kernel_rfl) (of_decide_eq_true (by kernel_rfl)) h0 bel lt0) (trodAll_cons_mk (Below.trod laidOut (by kernel_rfl) (of_decide_eq_true (by kernel_rfl)) h1 bel lt1) (trodAll_cons_mk (Below.trod laidOut (by kernel_rfl) (of_decide_eq_true (by kernel_rfl)) h2 bel lt2) trodAll_mk0))), rfl, bel.frame _, fun h => by cases h⟩
end traceWays

theorem traceWays_holds : Rows.TraceWaysSaid :=
  OpenClaim.holds_of_wide 4 Try.f4 rfl rfl rfl rfl rfl rfl rfl ⟨rfl, rfl, rfl, rfl, rfl⟩ rfl rfl rfl rfl rfl (by kernel_rfl) Try.func4 (by kernel_rfl)
    (of_decide_eq_true (by kernel_rfl)) (by unfold Func.isWrapper; first | (rw [if_pos (by decide +kernel)]; kernel_rfl) | (rw [if_neg (by decide +kernel)]; exact ⟨rfl, rfl⟩))
    (fun os started H enc _ => traceWays.lifted os started H enc)

end Go.Proofs.Ytnkfibahkmmnpaa
