/-
  The document's Clamp.
-/
import Derived.Test.YtolehoibpnenlaaMr
import Derived.Test.YtolehoibpnenlaaRcE6
namespace Go.Proofs.Ytolehoibpnenlaa
open Go.RowKit Go.Deep Go.Maps

/-- Boxes alone were written. -/
structure B26 (w w' : World) : Prop where
  os : w'.os = w.os
  tape : w'.tape = w.tape
  output : w'.output = w.output
  size : w'.heap.size = w.heap.size
  keep : ∀ (g : Nat) (cs : Array Value) (t : TypeId), w.heap[g]? = some (.cells cs t (0, 0)) → ∃ cs', w'.heap[g]? = some (.cells cs' t (0, 0)) ∧ (t ≠ 26 → cs' = cs)
theorem B26.refl (w : World) : B26 w w := ⟨rfl, rfl, rfl, rfl, fun _ cs _ h => ⟨cs, h, fun _ => rfl⟩⟩
theorem B26.set {w w' : World} (h : B26 w w') {g : Nat} (i : Nat) (v : Value) {cs : Array Value} (hg : w.heap[g]? = some (.cells cs 26 (0, 0))) : B26 w (w'.setCell ⟨g, i, none⟩ v) := by
  refine ⟨h.os, h.tape, h.output, by rw [← h.size]; simp [World.setCell], fun k ck t hk => ?_⟩
  obtain ⟨ck', h1, h2⟩ := h.keep k ck t hk
  by_cases e : k = g
  · subst e
    rw [hg] at hk
    cases hk
    exact ⟨_, heap_set v h1, fun e => absurd rfl e⟩
  · refine ⟨ck', ?_, h2⟩
    rw [(grown_set w' g i v).block _ (lt_block h1) (fun e' => e (by injection e'))]
    exact h1
theorem B26.own {w w' : World} (h : B26 w w') {base : Nat} {e : TypeId} {size : Nat} {v : Value} {n : Nat} {xs : List Value} (ho : w.ownsRow base e size v n xs) (he : e ≠ 26) : w'.ownsRow base e size v n xs :=
  owned_of_block ho fun g cur _ hc => by
    obtain ⟨c', h1, h2⟩ := h.keep g cur e hc
    rw [h1, hc, h2 he]
theorem B26.rcO {w w' : World} (h : B26 w w') {base : Nat} {x : Rc} {da : Option Addr} {dc : Nat} {sa : Option Addr} {sc : Nat} {ta : Option Addr} {tc : Nat} (ho : RcO w base x da dc sa sc ta tc) : RcO w' base x da dc sa sc ta tc := by
  obtain ⟨sl, h1, h2⟩ := ho.states.rows
  exact ⟨h.own ho.defs (by decide), h.own ho.subst (by decide), ⟨sl, h.own h1 (by decide), h2.1, fun i r s hi hs => ⟨(h2.2 i r s hi hs).1, (h2.2 i r s hi hs).2.1, (h2.2 i r s hi hs).2.2.1, h.own (h2.2 i r s hi hs).2.2.2 (by decide)⟩⟩⟩
/-- What another recurrence of the same lists has. -/
theorem RcO.as {w : World} {base : Nat} {x z : Rc} {da : Option Addr} {dc : Nat} {sa : Option Addr} {sc : Nat} {ta : Option Addr} {tc : Nat} (h : RcO w base x da dc sa sc ta tc) (e1 : z.defs = x.defs) (e2 : z.subst = x.subst) (e3 : z.states = x.states) : RcO w base z da dc sa sc ta tc :=
  ⟨by rw [e1]; exact h.defs, by rw [e2]; exact h.subst, by rw [e3]; exact h.states⟩
/-- The box of what is told. -/
structure OB (w : World) (g : Nat) (x : Rc) (oda : Option Addr) (odc : Nat) (osa : Option Addr) (osc : Nat) (ota : Option Addr) (otc : Nat) (cs : Array Value) (w4 : World) : Prop where
  out : w4.heap[g]? = some (.cells cs 26 (0, 0))
  res : w4.heap[w.heap.size + 1]? = some (.cells #[.int .i64 0, .slice none 0 0, .slice none 0 0, .int .i64 0, .int .i64 0, .int .i64 0, .int .i64 0, .bool false, .int .i64 0, .int .i64 0, .slice none 0 0] 26 (0, 0))
  low : Below w.heap.size w w4
  rco : RcO w4 w.heap.size x oda odc osa osc ota otc
theorem OB.set {w : World} {g : Nat} {x : Rc} {oda : Option Addr} {odc : Nat} {osa : Option Addr} {osc : Nat} {ota : Option Addr} {otc : Nat} {cs : Array Value} {w4 : World} (h : OB w g x oda odc osa osc ota otc cs w4) (hg : w.heap.size + 2 ≤ g) (i : Nat) (v : Value) : OB w g x oda odc osa osc ota otc (cs.setIfInBounds i v) (w4.setCell ⟨g, i, none⟩ v) :=
  ⟨heap_set v h.out, by rw [(grown_set w4 g i v).block _ (lt_block h.res) (fun e => by injection e with e; omega)]; exact h.res, h.low.setCell (by show w.heap.size ≤ g; omega) v, h.rco.by h.out (grown_set _ _ _ _)⟩
set_option maxRecDepth 20000 in
set_option maxHeartbeats 8000000 in
theorem refClamp_calls (x : Rc) (da : Option Addr) (dn dc : Nat) (sa : Option Addr) (sn sc : Nat) (ta : Option Addr) (tn tc : Nat) (w : World) (h : RcAt w x da dn sa sn ta tn) :
    Calls Try.prog 19 #[.agg (rcCells x da dn dc sa sn sc ta tn tc)] w fun e w' => UPost (okX (rightR x) (clampB x)) (okE (rightR x)) w e w' := by
  have hres : Try.f19.results = #[.cell 2 26, .tmp 3] := by kernel_rfl
  have HB0 : Hid (D5 w (rcCells x da dn dc sa sn sc ta tn tc) ((w.alloc (.cells (rcCells x da dn dc sa sn sc ta tn tc) 26)).alloc (.cells #[.int .i64 0, .slice none 0 0, .slice none 0 0, .int .i64 0, .int .i64 0, .int .i64 0, .int .i64 0, .bool false, .int .i64 0, .int .i64 0, .slice none 0 0] 26))) := D5.start _ _
  have HC : Hid (∀ W, Below w.heap.size w W → Calls Try.prog 24 #[.agg (rcCells x da dn dc sa sn sc ta tn tc)] W fun e w' => e = .returned (.bool (rightR x)) ∧ Below W.heap.size W w') := fun W hW => refright_calls x da dn dc sa sn sc ta tn tc W (h.below hW)
  have HCp : Hid (∀ W, rightR x = true → Below w.heap.size w W → Calls Try.prog 27 #[.agg (rcCells x da dn dc sa sn sc ta tn tc)] W fun e w' => ∃ da2 dc2 sa2 sc2 ta2 tc2 sl, e = .returned (.agg (rcCells x da2 x.defs.length dc2 sa2 x.subst.length sc2 ta2 x.states.length tc2)) ∧ Below W.heap.size W w' ∧ CpO w' W.heap.size x da2 dc2 sa2 sc2 ta2 tc2 sl) := fun W hr hW => copyR_calls x da dn dc sa sn sc ta tn tc W (h.below hW) (right_rcB hr)
  have HL : Hid (x.defs.length = dn ∧ x.subst.length = sn ∧ x.states.length = tn) := ⟨h.defs.length, h.subst.length, h.states.length⟩
  rw [h.defs.length, h.subst.length, h.states.length] at HCp
  obtain ⟨ok, hok⟩ : ∃ ok, rightR x = ok := ⟨_, rfl⟩
  have HOK : Hid (rightR x = ok) := hok
  obtain ⟨X, hX⟩ : ∃ X, clampB x = X := ⟨_, rfl⟩
  have HXc : Hid (clampB x = X ∧ X.defs = x.defs ∧ X.subst = x.subst ∧ X.states = x.states) := ⟨hX, by rw [← hX]; exact clamp_defs x⟩
  rw [hok] at HC ⊢
  rw [hX]
  clear h hok hX
  unfold rcCells at HB0 HC HCp ⊢
  go_enter Try.func19, Try.ntmps19
  go_wp2_with fail
  refine (HC.out _ HB0.out.low).mono ?_
  rintro e w1 ⟨rfl, hb1⟩
  have HB1 : Hid (D5 w #[.int .i64 x.letters, .slice da dn dc, .slice sa sn sc, .int .i64 x.beg, .int .i64 x.fin, .int .i64 x.front, .int .i64 x.back, .bool x.banded, .int .i64 x.lo, .int .i64 x.hi, .slice ta tn tc] w1) := HB0.out.next hb1 (by simp)
  clear hb1 HB0 HC
  cases ok with
  | false =>
    have r0 : w1.cell? ⟨w.heap.size + 1, 0, none⟩ = some (.int .i64 0) := blk (HB1.out.res) rfl
    have r1 : w1.cell? ⟨w.heap.size + 1, 1, none⟩ = some (.slice none 0 0) := blk (HB1.out.res) rfl
    have r2 : w1.cell? ⟨w.heap.size + 1, 2, none⟩ = some (.slice none 0 0) := blk (HB1.out.res) rfl
    have r3 : w1.cell? ⟨w.heap.size + 1, 3, none⟩ = some (.int .i64 0) := blk (HB1.out.res) rfl
    have r4 : w1.cell? ⟨w.heap.size + 1, 4, none⟩ = some (.int .i64 0) := blk (HB1.out.res) rfl
    have r5 : w1.cell? ⟨w.heap.size + 1, 5, none⟩ = some (.int .i64 0) := blk (HB1.out.res) rfl
    have r6 : w1.cell? ⟨w.heap.size + 1, 6, none⟩ = some (.int .i64 0) := blk (HB1.out.res) rfl
    have r7 : w1.cell? ⟨w.heap.size + 1, 7, none⟩ = some (.bool false) := blk (HB1.out.res) rfl
    have r8 : w1.cell? ⟨w.heap.size + 1, 8, none⟩ = some (.int .i64 0) := blk (HB1.out.res) rfl
    have r9 : w1.cell? ⟨w.heap.size + 1, 9, none⟩ = some (.int .i64 0) := blk (HB1.out.res) rfl
    have r10 : w1.cell? ⟨w.heap.size + 1, 10, none⟩ = some (.slice none 0 0) := blk (HB1.out.res) rfl
    have rf : ∀ i, w1.frozen? ⟨w.heap.size + 1, i, none⟩ = false := fun i => frozen_of_row w1 _ i _ _ HB1.out.res
    go_wp2
    refine bodyPost_ret (v := .tuple #[.agg #[.int .i64 0, .slice none 0 0, .slice none 0 0, .int .i64 0, .int .i64 0, .int .i64 0, .int .i64 0, .bool false, .int .i64 0, .int .i64 0, .slice none 0 0], .int .i64 120]) ?_ rfl ?_
    · simp only [results, hres]
      go_simp
    · exact ⟨none, 0, none, 0, none, 0, rfl, below_r HB1.out.low _ _ _ _ _ _ _ _ _ _ _, zero_rcO _ _⟩
  | true =>
    have c0 : w1.cell? ⟨w.heap.size, 0, none⟩ = some (.int .i64 x.letters) := blk (HB1.out.box) rfl
    have c1 : w1.cell? ⟨w.heap.size, 1, none⟩ = some (.slice da dn dc) := blk (HB1.out.box) rfl
    have c2 : w1.cell? ⟨w.heap.size, 2, none⟩ = some (.slice sa sn sc) := blk (HB1.out.box) rfl
    have c3 : w1.cell? ⟨w.heap.size, 3, none⟩ = some (.int .i64 x.beg) := blk (HB1.out.box) rfl
    have c4 : w1.cell? ⟨w.heap.size, 4, none⟩ = some (.int .i64 x.fin) := blk (HB1.out.box) rfl
    have c5 : w1.cell? ⟨w.heap.size, 5, none⟩ = some (.int .i64 x.front) := blk (HB1.out.box) rfl
    have c6 : w1.cell? ⟨w.heap.size, 6, none⟩ = some (.int .i64 x.back) := blk (HB1.out.box) rfl
    have c7 : w1.cell? ⟨w.heap.size, 7, none⟩ = some (.bool x.banded) := blk (HB1.out.box) rfl
    have c8 : w1.cell? ⟨w.heap.size, 8, none⟩ = some (.int .i64 x.lo) := blk (HB1.out.box) rfl
    have c9 : w1.cell? ⟨w.heap.size, 9, none⟩ = some (.int .i64 x.hi) := blk (HB1.out.box) rfl
    have c10 : w1.cell? ⟨w.heap.size, 10, none⟩ = some (.slice ta tn tc) := blk (HB1.out.box) rfl
    go_wp2_with fail
    refine (HCp.out w1 HOK.out HB1.out.low).mono ?_
    rintro e w2 ⟨oda, odc, osa, osc, ota, otc, osl, rfl, hb2, hcp⟩
    go_upto_region 7 with (fail)
    obtain ⟨w3, hw3⟩ : ∃ w3, w3 = w2.alloc (.cells #[.int .i64 x.letters, .slice oda dn odc, .slice osa sn osc, .int .i64 x.beg, .int .i64 x.fin, .int .i64 x.front, .int .i64 x.back, .bool x.banded, .int .i64 x.lo, .int .i64 x.hi, .slice ota tn otc] 26) := ⟨_, rfl⟩
    rw [← hw3]
    have HO : Hid (D5 w #[.int .i64 x.letters, .slice da dn dc, .slice sa sn sc, .int .i64 x.beg, .int .i64 x.fin, .int .i64 x.front, .int .i64 x.back, .bool x.banded, .int .i64 x.lo, .int .i64 x.hi, .slice ta tn tc] w3 ∧ w3.heap[w2.heap.size]? = some (.cells #[.int .i64 x.letters, .slice oda dn odc, .slice osa sn osc, .int .i64 x.beg, .int .i64 x.fin, .int .i64 x.front, .int .i64 x.back, .bool x.banded, .int .i64 x.lo, .int .i64 x.hi, .slice ota tn otc] 26 (0, 0)) ∧ RcO w3 w.heap.size x oda odc osa osc ota otc ∧ w.heap.size + 2 ≤ w2.heap.size) := by
      have h0 : Below w2.heap.size w2 w3 := by rw [hw3]; exact (Below.refl _ _).alloc (Nat.le_refl _) _
      have hd := HB1.out.next hb2 HB1.out.sz
      refine ⟨hd.next h0 hd.sz, by rw [hw3]; exact heap_alloc_new w2 _, ?_, hd.sz⟩
      have hr := (hcp.below h0).rcO (right_edges HOK.out)
      have hz : w.heap.size ≤ w1.heap.size := HB1.out.low.size
      exact ⟨owned_base hr.defs hz, owned_base hr.subst hz, hr.states.base' hz⟩
    clear hb2 hcp hw3 HB1 HCp
    clear c0 c1 c2 c3 c4 c5 c6 c7 c8 c9 c10
    have b7 : w3.cell? ⟨w.heap.size, 7, none⟩ = some (.bool x.banded) := blk HO.out.1.box rfl
    have b8 : w3.cell? ⟨w.heap.size, 8, none⟩ = some (.int .i64 x.lo) := blk HO.out.1.box rfl
    have b9 : w3.cell? ⟨w.heap.size, 9, none⟩ = some (.int .i64 x.hi) := blk HO.out.1.box rfl
    have o7 : w3.cell? ⟨w2.heap.size, 7, none⟩ = some (.bool x.banded) := blk HO.out.2.1 rfl
    have o8 : w3.cell? ⟨w2.heap.size, 8, none⟩ = some (.int .i64 x.lo) := blk HO.out.2.1 rfl
    have o9 : w3.cell? ⟨w2.heap.size, 9, none⟩ = some (.int .i64 x.hi) := blk HO.out.2.1 rfl
    have of : ∀ i, w3.frozen? ⟨w2.heap.size, i, none⟩ = false := fun i => frozen_of_row w3 _ i _ _ HO.out.2.1
    have hne : ¬ w2.heap.size = w.heap.size := by have := HO.out.2.2.2; omega
    have hne2 : ¬ w.heap.size = w2.heap.size := by have := HO.out.2.2.2; omega
    have HOB : Hid (OB w w2.heap.size x oda odc osa osc ota otc #[.int .i64 x.letters, .slice oda dn odc, .slice osa sn osc, .int .i64 x.beg, .int .i64 x.fin, .int .i64 x.front, .int .i64 x.back, .bool x.banded, .int .i64 x.lo, .int .i64 x.hi, .slice ota tn otc] w3) := ⟨HO.out.2.1, HO.out.1.res, HO.out.1.low, HO.out.2.2.1⟩
    have HBd : Hid (bandR x = true) := by have := HOK.out; simp only [rightR, Bool.and_eq_true] at this; exact this.2.2.2.1
    by_cases hbd : x.banded = true
    · rw [hbd] at b7
      by_cases h1 : 65536 < x.lo
      · have hXe : X = { x with lo := 65537, hi := 65537 } := by
          rw [← HXc.out.1]
          unfold clampB
          rw [if_pos hbd, if_pos h1]
        go_upto_region 18 with (fail)
        obtain ⟨w4, hw4⟩ : ∃ w4, w4 = (w3.setCell ⟨w2.heap.size, 8, none⟩ (.int .i64 65537)).setCell ⟨w2.heap.size, 9, none⟩ (.int .i64 65537) := ⟨_, rfl⟩
        rw [← hw4]
        have HT : Hid (OB w w2.heap.size x oda odc osa osc ota otc #[.int .i64 x.letters, .slice oda dn odc, .slice osa sn osc, .int .i64 x.beg, .int .i64 x.fin, .int .i64 x.front, .int .i64 x.back, .bool x.banded, .int .i64 65537, .int .i64 65537, .slice ota tn otc] w4) := by rw [hw4]; exact ((HOB.out.set HO.out.2.2.2 8 (.int .i64 65537)).set HO.out.2.2.2 9 (.int .i64 65537))
        clear hw4
        have p0 : w4.cell? ⟨w2.heap.size, 0, none⟩ = some (.int .i64 x.letters) := blk (HT.out.out) rfl
        have p1 : w4.cell? ⟨w2.heap.size, 1, none⟩ = some (.slice oda dn odc) := blk (HT.out.out) rfl
        have p2 : w4.cell? ⟨w2.heap.size, 2, none⟩ = some (.slice osa sn osc) := blk (HT.out.out) rfl
        have p3 : w4.cell? ⟨w2.heap.size, 3, none⟩ = some (.int .i64 x.beg) := blk (HT.out.out) rfl
        have p4 : w4.cell? ⟨w2.heap.size, 4, none⟩ = some (.int .i64 x.fin) := blk (HT.out.out) rfl
        have p5 : w4.cell? ⟨w2.heap.size, 5, none⟩ = some (.int .i64 x.front) := blk (HT.out.out) rfl
        have p6 : w4.cell? ⟨w2.heap.size, 6, none⟩ = some (.int .i64 x.back) := blk (HT.out.out) rfl
        have p7 : w4.cell? ⟨w2.heap.size, 7, none⟩ = some (.bool x.banded) := blk (HT.out.out) rfl
        have p8 : w4.cell? ⟨w2.heap.size, 8, none⟩ = some (.int .i64 65537) := blk (HT.out.out) rfl
        have p9 : w4.cell? ⟨w2.heap.size, 9, none⟩ = some (.int .i64 65537) := blk (HT.out.out) rfl
        have p10 : w4.cell? ⟨w2.heap.size, 10, none⟩ = some (.slice ota tn otc) := blk (HT.out.out) rfl
        have r0 : w4.cell? ⟨w.heap.size + 1, 0, none⟩ = some (.int .i64 0) := blk (HT.out.res) rfl
        have r1 : w4.cell? ⟨w.heap.size + 1, 1, none⟩ = some (.slice none 0 0) := blk (HT.out.res) rfl
        have r2 : w4.cell? ⟨w.heap.size + 1, 2, none⟩ = some (.slice none 0 0) := blk (HT.out.res) rfl
        have r3 : w4.cell? ⟨w.heap.size + 1, 3, none⟩ = some (.int .i64 0) := blk (HT.out.res) rfl
        have r4 : w4.cell? ⟨w.heap.size + 1, 4, none⟩ = some (.int .i64 0) := blk (HT.out.res) rfl
        have r5 : w4.cell? ⟨w.heap.size + 1, 5, none⟩ = some (.int .i64 0) := blk (HT.out.res) rfl
        have r6 : w4.cell? ⟨w.heap.size + 1, 6, none⟩ = some (.int .i64 0) := blk (HT.out.res) rfl
        have r7 : w4.cell? ⟨w.heap.size + 1, 7, none⟩ = some (.bool false) := blk (HT.out.res) rfl
        have r8 : w4.cell? ⟨w.heap.size + 1, 8, none⟩ = some (.int .i64 0) := blk (HT.out.res) rfl
        have r9 : w4.cell? ⟨w.heap.size + 1, 9, none⟩ = some (.int .i64 0) := blk (HT.out.res) rfl
        have r10 : w4.cell? ⟨w.heap.size + 1, 10, none⟩ = some (.slice none 0 0) := blk (HT.out.res) rfl
        have rf : ∀ i, w4.frozen? ⟨w.heap.size + 1, i, none⟩ = false := fun i => frozen_of_row w4 _ i _ _ HT.out.res
        clear b7 b8 b9 o7 o8 o9 of
        go_wp2
        refine bodyPost_ret (v := .tuple #[.agg #[.int .i64 x.letters, .slice oda dn odc, .slice osa sn osc, .int .i64 x.beg, .int .i64 x.fin, .int .i64 x.front, .int .i64 x.back, .bool x.banded, .int .i64 65537, .int .i64 65537, .slice ota tn otc], .int .i64 0]) ?_ rfl ?_
        · simp only [results, hres]
          go_simp
        · have hl := HL.out
          subst hXe
          refine ⟨oda, odc, osa, osc, ota, otc, ?_, below_r HT.out.low _ _ _ _ _ _ _ _ _ _ _, ?_⟩
          · simp only [okX, okE, if_true, rcCells]
            rw [hl.1, hl.2.1, hl.2.2]
            try (first | rfl | rw [hbd])
          · simp only [okX, if_true]
            exact (HT.out.rco.by HT.out.res (grown_r _ _ _ _ _ _ _ _ _ _ _)).as rfl rfl rfl
      · by_cases h2 : x.hi < -65536
        · have hXe : X = { x with lo := -65537, hi := -65537 } := by
            rw [← HXc.out.1]
            unfold clampB
            rw [if_pos hbd, if_neg h1, if_pos h2]
          go_upto_region 18 with (fail)
          obtain ⟨w4, hw4⟩ : ∃ w4, w4 = (w3.setCell ⟨w2.heap.size, 8, none⟩ (.int .i64 (-65537))).setCell ⟨w2.heap.size, 9, none⟩ (.int .i64 (-65537)) := ⟨_, rfl⟩
          rw [← hw4]
          have HT : Hid (OB w w2.heap.size x oda odc osa osc ota otc #[.int .i64 x.letters, .slice oda dn odc, .slice osa sn osc, .int .i64 x.beg, .int .i64 x.fin, .int .i64 x.front, .int .i64 x.back, .bool x.banded, .int .i64 (-65537), .int .i64 (-65537), .slice ota tn otc] w4) := by rw [hw4]; exact ((HOB.out.set HO.out.2.2.2 8 (.int .i64 (-65537))).set HO.out.2.2.2 9 (.int .i64 (-65537)))
          clear hw4
          have p0 : w4.cell? ⟨w2.heap.size, 0, none⟩ = some (.int .i64 x.letters) := blk (HT.out.out) rfl
          have p1 : w4.cell? ⟨w2.heap.size, 1, none⟩ = some (.slice oda dn odc) := blk (HT.out.out) rfl
          have p2 : w4.cell? ⟨w2.heap.size, 2, none⟩ = some (.slice osa sn osc) := blk (HT.out.out) rfl
          have p3 : w4.cell? ⟨w2.heap.size, 3, none⟩ = some (.int .i64 x.beg) := blk (HT.out.out) rfl
          have p4 : w4.cell? ⟨w2.heap.size, 4, none⟩ = some (.int .i64 x.fin) := blk (HT.out.out) rfl
          have p5 : w4.cell? ⟨w2.heap.size, 5, none⟩ = some (.int .i64 x.front) := blk (HT.out.out) rfl
          have p6 : w4.cell? ⟨w2.heap.size, 6, none⟩ = some (.int .i64 x.back) := blk (HT.out.out) rfl
          have p7 : w4.cell? ⟨w2.heap.size, 7, none⟩ = some (.bool x.banded) := blk (HT.out.out) rfl
          have p8 : w4.cell? ⟨w2.heap.size, 8, none⟩ = some (.int .i64 (-65537)) := blk (HT.out.out) rfl
          have p9 : w4.cell? ⟨w2.heap.size, 9, none⟩ = some (.int .i64 (-65537)) := blk (HT.out.out) rfl
          have p10 : w4.cell? ⟨w2.heap.size, 10, none⟩ = some (.slice ota tn otc) := blk (HT.out.out) rfl
          have r0 : w4.cell? ⟨w.heap.size + 1, 0, none⟩ = some (.int .i64 0) := blk (HT.out.res) rfl
          have r1 : w4.cell? ⟨w.heap.size + 1, 1, none⟩ = some (.slice none 0 0) := blk (HT.out.res) rfl
          have r2 : w4.cell? ⟨w.heap.size + 1, 2, none⟩ = some (.slice none 0 0) := blk (HT.out.res) rfl
          have r3 : w4.cell? ⟨w.heap.size + 1, 3, none⟩ = some (.int .i64 0) := blk (HT.out.res) rfl
          have r4 : w4.cell? ⟨w.heap.size + 1, 4, none⟩ = some (.int .i64 0) := blk (HT.out.res) rfl
          have r5 : w4.cell? ⟨w.heap.size + 1, 5, none⟩ = some (.int .i64 0) := blk (HT.out.res) rfl
          have r6 : w4.cell? ⟨w.heap.size + 1, 6, none⟩ = some (.int .i64 0) := blk (HT.out.res) rfl
          have r7 : w4.cell? ⟨w.heap.size + 1, 7, none⟩ = some (.bool false) := blk (HT.out.res) rfl
          have r8 : w4.cell? ⟨w.heap.size + 1, 8, none⟩ = some (.int .i64 0) := blk (HT.out.res) rfl
          have r9 : w4.cell? ⟨w.heap.size + 1, 9, none⟩ = some (.int .i64 0) := blk (HT.out.res) rfl
          have r10 : w4.cell? ⟨w.heap.size + 1, 10, none⟩ = some (.slice none 0 0) := blk (HT.out.res) rfl
          have rf : ∀ i, w4.frozen? ⟨w.heap.size + 1, i, none⟩ = false := fun i => frozen_of_row w4 _ i _ _ HT.out.res
          clear b7 b8 b9 o7 o8 o9 of
          go_wp2
          refine bodyPost_ret (v := .tuple #[.agg #[.int .i64 x.letters, .slice oda dn odc, .slice osa sn osc, .int .i64 x.beg, .int .i64 x.fin, .int .i64 x.front, .int .i64 x.back, .bool x.banded, .int .i64 (-65537), .int .i64 (-65537), .slice ota tn otc], .int .i64 0]) ?_ rfl ?_
          · simp only [results, hres]
            go_simp
          · have hl := HL.out
            subst hXe
            refine ⟨oda, odc, osa, osc, ota, otc, ?_, below_r HT.out.low _ _ _ _ _ _ _ _ _ _ _, ?_⟩
            · simp only [okX, okE, if_true, rcCells]
              rw [hl.1, hl.2.1, hl.2.2]
              try (first | rfl | rw [hbd])
            · simp only [okX, if_true]
              exact (HT.out.rco.by HT.out.res (grown_r _ _ _ _ _ _ _ _ _ _ _)).as rfl rfl rfl
        · obtain ⟨a, ha⟩ : ∃ a, max x.lo (-65536) = a := ⟨_, rfl⟩
          obtain ⟨b, hb⟩ : ∃ b, min x.hi 65536 = b := ⟨_, rfl⟩
          go_upto_region 14 with (fail)
          obtain ⟨w5, hw5⟩ : ∃ w5, w5 = (w3.setCell ⟨w2.heap.size, 8, none⟩ (.int .i64 a)).setCell ⟨w2.heap.size, 9, none⟩ (.int .i64 b) := ⟨_, rfl⟩
          rw [← hw5]
          have HO5 : Hid (OB w w2.heap.size x oda odc osa osc ota otc #[.int .i64 x.letters, .slice oda dn odc, .slice osa sn osc, .int .i64 x.beg, .int .i64 x.fin, .int .i64 x.front, .int .i64 x.back, .bool x.banded, .int .i64 a, .int .i64 b, .slice ota tn otc] w5) := by rw [hw5]; exact (HOB.out.set HO.out.2.2.2 8 (.int .i64 a)).set HO.out.2.2.2 9 (.int .i64 b)
          have p7 : w5.cell? ⟨w2.heap.size, 7, none⟩ = some (.bool x.banded) := blk HO5.out.out rfl
          have p8 : w5.cell? ⟨w2.heap.size, 8, none⟩ = some (.int .i64 a) := blk HO5.out.out rfl
          have p9 : w5.cell? ⟨w2.heap.size, 9, none⟩ = some (.int .i64 b) := blk HO5.out.out rfl
          have pf : ∀ i, w5.frozen? ⟨w2.heap.size, i, none⟩ = false := fun i => frozen_of_row w5 _ i _ _ HO5.out.out
          have HM : Hid (max x.lo (-65536) = a ∧ min x.hi 65536 = b) := ⟨ha, hb⟩
          clear hw5 ha hb HOB b8 b9 o7 o8 o9 of
          have HOB := HO5
          by_cases g1 : a = -65536
          · by_cases g2 : b = 65536
            · rw [g1] at p8
              rw [g2] at p9
              rw [g1, g2]
              have hXe : X = { x with banded := false, lo := 0, hi := 0 } := by
                rw [← HXc.out.1]
                unfold clampB
                rw [if_pos hbd, if_neg h1, if_neg h2, if_pos ⟨HM.out.1.trans g1, HM.out.2.trans g2⟩]
              go_upto_region 18 with (fail)
              obtain ⟨w4, hw4⟩ : ∃ w4, w4 = ((w5.setCell ⟨w2.heap.size, 7, none⟩ (.bool false)).setCell ⟨w2.heap.size, 8, none⟩ (.int .i64 0)).setCell ⟨w2.heap.size, 9, none⟩ (.int .i64 0) := ⟨_, rfl⟩
              rw [← hw4]
              have HT : Hid (OB w w2.heap.size x oda odc osa osc ota otc #[.int .i64 x.letters, .slice oda dn odc, .slice osa sn osc, .int .i64 x.beg, .int .i64 x.fin, .int .i64 x.front, .int .i64 x.back, .bool false, .int .i64 0, .int .i64 0, .slice ota tn otc] w4) := by rw [hw4]; exact (((HOB.out.set HO.out.2.2.2 7 (.bool false)).set HO.out.2.2.2 8 (.int .i64 0)).set HO.out.2.2.2 9 (.int .i64 0))
              clear hw4
              have p0 : w4.cell? ⟨w2.heap.size, 0, none⟩ = some (.int .i64 x.letters) := blk (HT.out.out) rfl
              have p1 : w4.cell? ⟨w2.heap.size, 1, none⟩ = some (.slice oda dn odc) := blk (HT.out.out) rfl
              have p2 : w4.cell? ⟨w2.heap.size, 2, none⟩ = some (.slice osa sn osc) := blk (HT.out.out) rfl
              have p3 : w4.cell? ⟨w2.heap.size, 3, none⟩ = some (.int .i64 x.beg) := blk (HT.out.out) rfl
              have p4 : w4.cell? ⟨w2.heap.size, 4, none⟩ = some (.int .i64 x.fin) := blk (HT.out.out) rfl
              have p5 : w4.cell? ⟨w2.heap.size, 5, none⟩ = some (.int .i64 x.front) := blk (HT.out.out) rfl
              have p6 : w4.cell? ⟨w2.heap.size, 6, none⟩ = some (.int .i64 x.back) := blk (HT.out.out) rfl
              clear p7 p8 p9
              have p7 : w4.cell? ⟨w2.heap.size, 7, none⟩ = some (.bool false) := blk (HT.out.out) rfl
              have p8 : w4.cell? ⟨w2.heap.size, 8, none⟩ = some (.int .i64 0) := blk (HT.out.out) rfl
              have p9 : w4.cell? ⟨w2.heap.size, 9, none⟩ = some (.int .i64 0) := blk (HT.out.out) rfl
              have p10 : w4.cell? ⟨w2.heap.size, 10, none⟩ = some (.slice ota tn otc) := blk (HT.out.out) rfl
              have r0 : w4.cell? ⟨w.heap.size + 1, 0, none⟩ = some (.int .i64 0) := blk (HT.out.res) rfl
              have r1 : w4.cell? ⟨w.heap.size + 1, 1, none⟩ = some (.slice none 0 0) := blk (HT.out.res) rfl
              have r2 : w4.cell? ⟨w.heap.size + 1, 2, none⟩ = some (.slice none 0 0) := blk (HT.out.res) rfl
              have r3 : w4.cell? ⟨w.heap.size + 1, 3, none⟩ = some (.int .i64 0) := blk (HT.out.res) rfl
              have r4 : w4.cell? ⟨w.heap.size + 1, 4, none⟩ = some (.int .i64 0) := blk (HT.out.res) rfl
              have r5 : w4.cell? ⟨w.heap.size + 1, 5, none⟩ = some (.int .i64 0) := blk (HT.out.res) rfl
              have r6 : w4.cell? ⟨w.heap.size + 1, 6, none⟩ = some (.int .i64 0) := blk (HT.out.res) rfl
              have r7 : w4.cell? ⟨w.heap.size + 1, 7, none⟩ = some (.bool false) := blk (HT.out.res) rfl
              have r8 : w4.cell? ⟨w.heap.size + 1, 8, none⟩ = some (.int .i64 0) := blk (HT.out.res) rfl
              have r9 : w4.cell? ⟨w.heap.size + 1, 9, none⟩ = some (.int .i64 0) := blk (HT.out.res) rfl
              have r10 : w4.cell? ⟨w.heap.size + 1, 10, none⟩ = some (.slice none 0 0) := blk (HT.out.res) rfl
              have rf : ∀ i, w4.frozen? ⟨w.heap.size + 1, i, none⟩ = false := fun i => frozen_of_row w4 _ i _ _ HT.out.res
              clear b7 pf
              go_wp2
              refine bodyPost_ret (v := .tuple #[.agg #[.int .i64 x.letters, .slice oda dn odc, .slice osa sn osc, .int .i64 x.beg, .int .i64 x.fin, .int .i64 x.front, .int .i64 x.back, .bool false, .int .i64 0, .int .i64 0, .slice ota tn otc], .int .i64 0]) ?_ rfl ?_
              · simp only [results, hres]
                go_simp
              · have hl := HL.out
                subst hXe
                refine ⟨oda, odc, osa, osc, ota, otc, ?_, below_r HT.out.low _ _ _ _ _ _ _ _ _ _ _, ?_⟩
                · simp only [okX, okE, if_true, rcCells]
                  rw [hl.1, hl.2.1, hl.2.2]
                  try (first | rfl | rw [hbd])
                · simp only [okX, if_true]
                  exact (HT.out.rco.by HT.out.res (grown_r _ _ _ _ _ _ _ _ _ _ _)).as rfl rfl rfl
            · have g3 : (b == 65536) = false := by simpa using g2
              have g5 : decide (b = 65536) = false := by simpa using g2
              have HG : Hid (a = -65536) := g1
              rw [g1] at p8 ⊢
              have hXe : X = { x with lo := a, hi := b } := by
                rw [← HXc.out.1]
                unfold clampB
                rw [if_pos hbd, if_neg h1, if_neg h2, if_neg (fun e => g2 (HM.out.2.symm.trans e.2)), HM.out.1, HM.out.2]
              clear g1
              go_upto_region 18 with (fail)
              obtain ⟨w4, hw4⟩ : ∃ w4, w4 = w5 := ⟨_, rfl⟩
              rw [← hw4]
              have HT : Hid (OB w w2.heap.size x oda odc osa osc ota otc #[.int .i64 x.letters, .slice oda dn odc, .slice osa sn osc, .int .i64 x.beg, .int .i64 x.fin, .int .i64 x.front, .int .i64 x.back, .bool x.banded, .int .i64 a, .int .i64 b, .slice ota tn otc] w4) := by rw [hw4]; exact HOB.out
              clear hw4
              have p0 : w4.cell? ⟨w2.heap.size, 0, none⟩ = some (.int .i64 x.letters) := blk (HT.out.out) rfl
              have p1 : w4.cell? ⟨w2.heap.size, 1, none⟩ = some (.slice oda dn odc) := blk (HT.out.out) rfl
              have p2 : w4.cell? ⟨w2.heap.size, 2, none⟩ = some (.slice osa sn osc) := blk (HT.out.out) rfl
              have p3 : w4.cell? ⟨w2.heap.size, 3, none⟩ = some (.int .i64 x.beg) := blk (HT.out.out) rfl
              have p4 : w4.cell? ⟨w2.heap.size, 4, none⟩ = some (.int .i64 x.fin) := blk (HT.out.out) rfl
              have p5 : w4.cell? ⟨w2.heap.size, 5, none⟩ = some (.int .i64 x.front) := blk (HT.out.out) rfl
              have p6 : w4.cell? ⟨w2.heap.size, 6, none⟩ = some (.int .i64 x.back) := blk (HT.out.out) rfl
              clear p7 p8 p9
              have p7 : w4.cell? ⟨w2.heap.size, 7, none⟩ = some (.bool x.banded) := blk (HT.out.out) rfl
              have p8 : w4.cell? ⟨w2.heap.size, 8, none⟩ = some (.int .i64 a) := blk (HT.out.out) rfl
              have p9 : w4.cell? ⟨w2.heap.size, 9, none⟩ = some (.int .i64 b) := blk (HT.out.out) rfl
              have p10 : w4.cell? ⟨w2.heap.size, 10, none⟩ = some (.slice ota tn otc) := blk (HT.out.out) rfl
              have r0 : w4.cell? ⟨w.heap.size + 1, 0, none⟩ = some (.int .i64 0) := blk (HT.out.res) rfl
              have r1 : w4.cell? ⟨w.heap.size + 1, 1, none⟩ = some (.slice none 0 0) := blk (HT.out.res) rfl
              have r2 : w4.cell? ⟨w.heap.size + 1, 2, none⟩ = some (.slice none 0 0) := blk (HT.out.res) rfl
              have r3 : w4.cell? ⟨w.heap.size + 1, 3, none⟩ = some (.int .i64 0) := blk (HT.out.res) rfl
              have r4 : w4.cell? ⟨w.heap.size + 1, 4, none⟩ = some (.int .i64 0) := blk (HT.out.res) rfl
              have r5 : w4.cell? ⟨w.heap.size + 1, 5, none⟩ = some (.int .i64 0) := blk (HT.out.res) rfl
              have r6 : w4.cell? ⟨w.heap.size + 1, 6, none⟩ = some (.int .i64 0) := blk (HT.out.res) rfl
              have r7 : w4.cell? ⟨w.heap.size + 1, 7, none⟩ = some (.bool false) := blk (HT.out.res) rfl
              have r8 : w4.cell? ⟨w.heap.size + 1, 8, none⟩ = some (.int .i64 0) := blk (HT.out.res) rfl
              have r9 : w4.cell? ⟨w.heap.size + 1, 9, none⟩ = some (.int .i64 0) := blk (HT.out.res) rfl
              have r10 : w4.cell? ⟨w.heap.size + 1, 10, none⟩ = some (.slice none 0 0) := blk (HT.out.res) rfl
              have rf : ∀ i, w4.frozen? ⟨w.heap.size + 1, i, none⟩ = false := fun i => frozen_of_row w4 _ i _ _ HT.out.res
              clear b7 pf
              go_wp2
              refine bodyPost_ret (v := .tuple #[.agg #[.int .i64 x.letters, .slice oda dn odc, .slice osa sn osc, .int .i64 x.beg, .int .i64 x.fin, .int .i64 x.front, .int .i64 x.back, .bool x.banded, .int .i64 a, .int .i64 b, .slice ota tn otc], .int .i64 0]) ?_ rfl ?_
              · simp only [results, hres]
                go_simp
              · have hl := HL.out
                subst hXe
                refine ⟨oda, odc, osa, osc, ota, otc, ?_, below_r HT.out.low _ _ _ _ _ _ _ _ _ _ _, ?_⟩
                · simp only [okX, okE, if_true, rcCells]
                  rw [hl.1, hl.2.1, hl.2.2]
                  try (first | rfl | rw [hbd])
                · simp only [okX, if_true]
                  exact (HT.out.rco.by HT.out.res (grown_r _ _ _ _ _ _ _ _ _ _ _)).as rfl rfl rfl
          · have g3 : (a == -65536) = false := by simpa using g1
            have g5 : decide (a = -65536) = false := by simpa using g1
            have hXe : X = { x with lo := a, hi := b } := by
              rw [← HXc.out.1]
              unfold clampB
              rw [if_pos hbd, if_neg h1, if_neg h2, if_neg (fun e => g1 (HM.out.1.symm.trans e.1)), HM.out.1, HM.out.2]
            go_upto_region 18 with (fail)
            obtain ⟨w4, hw4⟩ : ∃ w4, w4 = w5 := ⟨_, rfl⟩
            rw [← hw4]
            have HT : Hid (OB w w2.heap.size x oda odc osa osc ota otc #[.int .i64 x.letters, .slice oda dn odc, .slice osa sn osc, .int .i64 x.beg, .int .i64 x.fin, .int .i64 x.front, .int .i64 x.back, .bool x.banded, .int .i64 a, .int .i64 b, .slice ota tn otc] w4) := by rw [hw4]; exact HOB.out
            clear hw4
            have p0 : w4.cell? ⟨w2.heap.size, 0, none⟩ = some (.int .i64 x.letters) := blk (HT.out.out) rfl
            have p1 : w4.cell? ⟨w2.heap.size, 1, none⟩ = some (.slice oda dn odc) := blk (HT.out.out) rfl
            have p2 : w4.cell? ⟨w2.heap.size, 2, none⟩ = some (.slice osa sn osc) := blk (HT.out.out) rfl
            have p3 : w4.cell? ⟨w2.heap.size, 3, none⟩ = some (.int .i64 x.beg) := blk (HT.out.out) rfl
            have p4 : w4.cell? ⟨w2.heap.size, 4, none⟩ = some (.int .i64 x.fin) := blk (HT.out.out) rfl
            have p5 : w4.cell? ⟨w2.heap.size, 5, none⟩ = some (.int .i64 x.front) := blk (HT.out.out) rfl
            have p6 : w4.cell? ⟨w2.heap.size, 6, none⟩ = some (.int .i64 x.back) := blk (HT.out.out) rfl
            clear p7 p8 p9
            have p7 : w4.cell? ⟨w2.heap.size, 7, none⟩ = some (.bool x.banded) := blk (HT.out.out) rfl
            have p8 : w4.cell? ⟨w2.heap.size, 8, none⟩ = some (.int .i64 a) := blk (HT.out.out) rfl
            have p9 : w4.cell? ⟨w2.heap.size, 9, none⟩ = some (.int .i64 b) := blk (HT.out.out) rfl
            have p10 : w4.cell? ⟨w2.heap.size, 10, none⟩ = some (.slice ota tn otc) := blk (HT.out.out) rfl
            have r0 : w4.cell? ⟨w.heap.size + 1, 0, none⟩ = some (.int .i64 0) := blk (HT.out.res) rfl
            have r1 : w4.cell? ⟨w.heap.size + 1, 1, none⟩ = some (.slice none 0 0) := blk (HT.out.res) rfl
            have r2 : w4.cell? ⟨w.heap.size + 1, 2, none⟩ = some (.slice none 0 0) := blk (HT.out.res) rfl
            have r3 : w4.cell? ⟨w.heap.size + 1, 3, none⟩ = some (.int .i64 0) := blk (HT.out.res) rfl
            have r4 : w4.cell? ⟨w.heap.size + 1, 4, none⟩ = some (.int .i64 0) := blk (HT.out.res) rfl
            have r5 : w4.cell? ⟨w.heap.size + 1, 5, none⟩ = some (.int .i64 0) := blk (HT.out.res) rfl
            have r6 : w4.cell? ⟨w.heap.size + 1, 6, none⟩ = some (.int .i64 0) := blk (HT.out.res) rfl
            have r7 : w4.cell? ⟨w.heap.size + 1, 7, none⟩ = some (.bool false) := blk (HT.out.res) rfl
            have r8 : w4.cell? ⟨w.heap.size + 1, 8, none⟩ = some (.int .i64 0) := blk (HT.out.res) rfl
            have r9 : w4.cell? ⟨w.heap.size + 1, 9, none⟩ = some (.int .i64 0) := blk (HT.out.res) rfl
            have r10 : w4.cell? ⟨w.heap.size + 1, 10, none⟩ = some (.slice none 0 0) := blk (HT.out.res) rfl
            have rf : ∀ i, w4.frozen? ⟨w.heap.size + 1, i, none⟩ = false := fun i => frozen_of_row w4 _ i _ _ HT.out.res
            clear b7 pf
            go_wp2
            refine bodyPost_ret (v := .tuple #[.agg #[.int .i64 x.letters, .slice oda dn odc, .slice osa sn osc, .int .i64 x.beg, .int .i64 x.fin, .int .i64 x.front, .int .i64 x.back, .bool x.banded, .int .i64 a, .int .i64 b, .slice ota tn otc], .int .i64 0]) ?_ rfl ?_
            · simp only [results, hres]
              go_simp
            · have hl := HL.out
              subst hXe
              refine ⟨oda, odc, osa, osc, ota, otc, ?_, below_r HT.out.low _ _ _ _ _ _ _ _ _ _ _, ?_⟩
              · simp only [okX, okE, if_true, rcCells]
                rw [hl.1, hl.2.1, hl.2.2]
                try (first | rfl | rw [hbd])
              · simp only [okX, if_true]
                exact (HT.out.rco.by HT.out.res (grown_r _ _ _ _ _ _ _ _ _ _ _)).as rfl rfl rfl
    · have hbf : x.banded = false := by simpa using hbd
      have hlo : x.lo = 0 ∧ x.hi = 0 := by have := HBd.out; rw [bandR, hbf] at this; simpa using this
      rw [hbf] at b7
      have HLO : Hid (x.lo = 0 ∧ x.hi = 0) := hlo
      have o8' : w3.cell? ⟨w2.heap.size, 8, none⟩ = some (.int .i64 0) := by rw [← hlo.1]; exact o8
      have HXX : Hid (X = x) := by
        show X = x
        rw [← HXc.out.1]
        unfold clampB
        rw [if_neg hbd]
      clear o8 hlo hbf
      have hXe : X = x := HXX.out
      go_upto_region 18 with (fail)
      obtain ⟨w4, hw4⟩ : ∃ w4, w4 = w3 := ⟨_, rfl⟩
      rw [← hw4]
      have HT : Hid (OB w w2.heap.size x oda odc osa osc ota otc #[.int .i64 x.letters, .slice oda dn odc, .slice osa sn osc, .int .i64 x.beg, .int .i64 x.fin, .int .i64 x.front, .int .i64 x.back, .bool x.banded, .int .i64 x.lo, .int .i64 x.hi, .slice ota tn otc] w4) := by rw [hw4]; exact HOB.out
      clear hw4
      have p0 : w4.cell? ⟨w2.heap.size, 0, none⟩ = some (.int .i64 x.letters) := blk (HT.out.out) rfl
      have p1 : w4.cell? ⟨w2.heap.size, 1, none⟩ = some (.slice oda dn odc) := blk (HT.out.out) rfl
      have p2 : w4.cell? ⟨w2.heap.size, 2, none⟩ = some (.slice osa sn osc) := blk (HT.out.out) rfl
      have p3 : w4.cell? ⟨w2.heap.size, 3, none⟩ = some (.int .i64 x.beg) := blk (HT.out.out) rfl
      have p4 : w4.cell? ⟨w2.heap.size, 4, none⟩ = some (.int .i64 x.fin) := blk (HT.out.out) rfl
      have p5 : w4.cell? ⟨w2.heap.size, 5, none⟩ = some (.int .i64 x.front) := blk (HT.out.out) rfl
      have p6 : w4.cell? ⟨w2.heap.size, 6, none⟩ = some (.int .i64 x.back) := blk (HT.out.out) rfl
      have p7 : w4.cell? ⟨w2.heap.size, 7, none⟩ = some (.bool x.banded) := blk (HT.out.out) rfl
      have p8 : w4.cell? ⟨w2.heap.size, 8, none⟩ = some (.int .i64 x.lo) := blk (HT.out.out) rfl
      have p9 : w4.cell? ⟨w2.heap.size, 9, none⟩ = some (.int .i64 x.hi) := blk (HT.out.out) rfl
      have p10 : w4.cell? ⟨w2.heap.size, 10, none⟩ = some (.slice ota tn otc) := blk (HT.out.out) rfl
      have r0 : w4.cell? ⟨w.heap.size + 1, 0, none⟩ = some (.int .i64 0) := blk (HT.out.res) rfl
      have r1 : w4.cell? ⟨w.heap.size + 1, 1, none⟩ = some (.slice none 0 0) := blk (HT.out.res) rfl
      have r2 : w4.cell? ⟨w.heap.size + 1, 2, none⟩ = some (.slice none 0 0) := blk (HT.out.res) rfl
      have r3 : w4.cell? ⟨w.heap.size + 1, 3, none⟩ = some (.int .i64 0) := blk (HT.out.res) rfl
      have r4 : w4.cell? ⟨w.heap.size + 1, 4, none⟩ = some (.int .i64 0) := blk (HT.out.res) rfl
      have r5 : w4.cell? ⟨w.heap.size + 1, 5, none⟩ = some (.int .i64 0) := blk (HT.out.res) rfl
      have r6 : w4.cell? ⟨w.heap.size + 1, 6, none⟩ = some (.int .i64 0) := blk (HT.out.res) rfl
      have r7 : w4.cell? ⟨w.heap.size + 1, 7, none⟩ = some (.bool false) := blk (HT.out.res) rfl
      have r8 : w4.cell? ⟨w.heap.size + 1, 8, none⟩ = some (.int .i64 0) := blk (HT.out.res) rfl
      have r9 : w4.cell? ⟨w.heap.size + 1, 9, none⟩ = some (.int .i64 0) := blk (HT.out.res) rfl
      have r10 : w4.cell? ⟨w.heap.size + 1, 10, none⟩ = some (.slice none 0 0) := blk (HT.out.res) rfl
      have rf : ∀ i, w4.frozen? ⟨w.heap.size + 1, i, none⟩ = false := fun i => frozen_of_row w4 _ i _ _ HT.out.res
      clear b7 b8 b9 o7 o8' o9 of
      go_wp2
      refine bodyPost_ret (v := .tuple #[.agg #[.int .i64 x.letters, .slice oda dn odc, .slice osa sn osc, .int .i64 x.beg, .int .i64 x.fin, .int .i64 x.front, .int .i64 x.back, .bool x.banded, .int .i64 x.lo, .int .i64 x.hi, .slice ota tn otc], .int .i64 0]) ?_ rfl ?_
      · simp only [results, hres]
        go_simp
      · have hl := HL.out
        subst hXe
        refine ⟨oda, odc, osa, osc, ota, otc, ?_, below_r HT.out.low _ _ _ _ _ _ _ _ _ _ _, ?_⟩
        · simp only [okX, okE, if_true, rcCells]
          rw [hl.1, hl.2.1, hl.2.2]
          try (first | rfl | rw [hbd])
        · simp only [okX, if_true]
          exact (HT.out.rco.by HT.out.res (grown_r _ _ _ _ _ _ _ _ _ _ _)).as rfl rfl rfl
end Go.Proofs.Ytolehoibpnenlaa
