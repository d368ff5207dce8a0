/-
  The walks of the statements' own numbers and same.
-/
import Derived.Test.YtignpgoicoojiaaDoorRtB
namespace Go.Proofs.YtignpgoicoojiaaDoor
open Go.RowKit

theorem drewN_add (w : World) (a b : Nat) : (w.drewN a).drewN b = w.drewN (a + b) := by
  induction b with
  | zero => rfl
  | succ b ih => show ((w.drewN a).drewN b).drew = (w.drewN (a + b)).drew; rw [ih]
theorem take_nextG {α : Type} {qs ps : List α} {k : Nat} {q p : α} (hq : qs[k]? = some q) (hp : ps[k]? = some p) (h : qs.take k = ps.take k) (e : q = p) : qs.take (k + 1) = ps.take (k + 1) := by
  obtain ⟨h1, h2⟩ := List.getElem?_eq_some_iff.1 hq
  obtain ⟨h3, h4⟩ := List.getElem?_eq_some_iff.1 hp
  rw [List.take_succ_eq_append_getElem h1, List.take_succ_eq_append_getElem h3, h2, h4, h, e]
theorem take_not {α : Type} {qs ps : List α} {k : Nat} {q p : α} (hq : qs[k]? = some q) (hp : ps[k]? = some p) (e : ¬ q = p) : ¬ qs = ps := by
  intro h
  rw [h, hp] at hq
  exact e (Option.some.inj hq).symm
theorem getD_get {zs : List Int} {k : Nat} (h : k < zs.length) : zs[k]? = some (zs.getD k 0) := by
  rw [List.getElem?_eq_getElem h, List.getD, List.getElem?_eq_getElem h]; rfl

set_option maxHeartbeats 1000000 in
theorem numbersL_calls (ao bo : Option Addr) (n m ca cb : Nat) (qs ps : List Int) (w : World) (ha : IntsAt w ao n qs) (hb : IntsAt w bo m ps) :
    Calls Tryd.prog 38 #[.slice ao n ca, .slice bo m cb] w fun e w' => e = .returned (.bool (decide (qs = ps))) ∧ ∃ k, w' = w.drewN k := by
  have hm := ha.short
  unfold maxLen at hm
  have hm2 := hb.short
  unfold maxLen at hm2
  have HLa : Hid (qs.length = n) := ha.length
  have HLb : Hid (ps.length = m) := hb.length
  have HA : Hid (IntsAt w ao n qs) := ha
  have HB : Hid (IntsAt w bo m ps) := hb
  clear ha hb
  by_cases hne : n = m
  · subst hne
    have hd : ((n : Int) != (n : Int)) = false := by simp
    go_enter Tryd.func38, Tryd.ntmps38
    go_wp2
    go_loopw [5] (fun i wr => ∃ k j : Nat, k ≤ n ∧ i = .int .i64 k ∧ qs.take k = ps.take k ∧ wr = w.drewN j) (fun i _ => n - (intOf i).toNat)
    case atStart => exact ⟨0, 0, Nat.zero_le _, rfl, by simp, rfl⟩
    case round =>
      obtain ⟨k, j, hk, rfl, heq, hwr⟩ := hrel
      have HE : Hid (qs.take k = ps.take k) := heq
      have HW : Hid (wr = w.drewN j) := hwr
      have hbel : Below w.heap.size w wr := by rw [hwr]; exact below_drewN (Below.refl _ _) j
      clear heq hwr
      by_cases hlt : k < n
      · obtain ⟨b1, o1, rfl, hc1⟩ := (HA.out.below hbel).cells (by omega)
        obtain ⟨b2, o2, rfl, hc2⟩ := (HB.out.below hbel).cells (by omega)
        have x1 := hc1 k hlt
        have y1 := hc2 k hlt
        have HQ : Hid (qs[k]? = some (qs.getD k 0) ∧ ps[k]? = some (ps.getD k 0)) := ⟨getD_get (by rw [HLa.out]; exact hlt), getD_get (by rw [HLb.out]; exact hlt)⟩
        obtain ⟨q, hq⟩ : ∃ q, qs.getD k 0 = q := ⟨_, rfl⟩
        obtain ⟨p, hp⟩ : ∃ p, ps.getD k 0 = p := ⟨_, rfl⟩
        rw [hq, hp] at HQ
        rw [hq] at x1
        rw [hp] at y1
        clear hc1 hc2 hq hp hbel
        by_cases e : q = p
        · have hb : (q != p) = false := by simp [e]
          have HN : Hid (qs.take (k + 1) = ps.take (k + 1)) := take_nextG HQ.out.1 HQ.out.2 HE.out e
          clear e
          go_wp2_with fail
          go_quiet (fail)
          have HW2 : Hid (∃ i, wr.drewN nq = w.drewN i) := ⟨j + nq, by rw [HW.out]; exact drewN_add w j nq⟩
          generalize wr.drewN nq = wz at *
          go_wp2
          go_roundw
          case rel =>
            obtain ⟨i, hi⟩ := HW2.out
            exact ⟨k + 1, i, by omega, by go_num, HN.out, hi⟩
          case measure => simp [intOf]; omega
        · have hb : (q != p) = true := by simp [e]
          have HN : Hid (¬ qs = ps) := take_not HQ.out.1 HQ.out.2 e
          clear e
          go_wp2_with fail
          go_quiet (fail)
          have HW2 : Hid (∃ i, wr.drewN nq = w.drewN i) := ⟨j + nq, by rw [HW.out]; exact drewN_add w j nq⟩
          generalize wr.drewN nq = wz at *
          go_wp2
          go_ret
          exact ⟨ret_bool (decide_eq_false HN.out).symm, HW2.out⟩
      · have HN : Hid (qs = ps) := by
          have h := HE.out
          rw [List.take_of_length_le (by rw [HLa.out]; omega), List.take_of_length_le (by rw [HLb.out]; omega)] at h
          exact h
        go_wp2
        go_ret
        exact ⟨ret_bool (decide_eq_true HN.out).symm, j, HW.out⟩
  · have hd : ((n : Int) != (m : Int)) = true := by rw [bne_iff_ne]; omega
    have HN : Hid (¬ qs = ps) := fun h => hne (by rw [← HLa.out, ← HLb.out, h])
    go_enter Tryd.func38, Tryd.ntmps38
    go_wp2
    go_ret
    exact ⟨ret_bool (decide_eq_false HN.out).symm, 0, rfl⟩

theorem guard38 : Tryd.prog.eqGuardType Tryd.prog.depth 38 = false := by kernel_rfl
theorem fields38 : Tryd.prog.underlying 38 = some (.struct (Tryd.prog.fieldsOf 38)) := by kernel_rfl
theorem held38 : Tryd.prog.stoodInHeld 38 = false := by kernel_rfl
theorem equal_q38 (o x y z o2 x2 y2 z2 : Int) (W : World) : (Op.equalIn 10000 38 (.agg #[.int .i64 o, .int .i64 x, .int .i64 y, .int .i64 z]) (.agg #[.int .i64 o2, .int .i64 x2, .int .i64 y2, .int .i64 z2])).run Tryd.prog W = .ok (decide ((o, x, y, z) = (o2, x2, y2, z2))) W := by
  rw [show (10000 : Nat) = 9999 + 1 from rfl, run_equalIn_agg W 9999 38 _ _ fields38 held38]
  simp only [Program.fieldsOf, Tryd.underlying38]
  go_simp
  by_cases h1 : o = o2 <;> by_cases h2 : x = x2 <;> by_cases h3 : y = y2 <;> by_cases h4 : z = z2 <;> simp [h1, h2, h3, h4]

theorem guard40 : Tryd.prog.eqGuardType Tryd.prog.depth 40 = false := by kernel_rfl
theorem fields40 : Tryd.prog.underlying 40 = some (.struct (Tryd.prog.fieldsOf 40)) := by kernel_rfl
theorem held40 : Tryd.prog.stoodInHeld 40 = false := by kernel_rfl
theorem equal_q40 (o x y z o2 x2 y2 z2 : Int) (W : World) : (Op.equalIn 10000 40 (.agg #[.int .i64 o, .int .i64 x, .int .i64 y, .int .i64 z]) (.agg #[.int .i64 o2, .int .i64 x2, .int .i64 y2, .int .i64 z2])).run Tryd.prog W = .ok (decide ((o, x, y, z) = (o2, x2, y2, z2))) W := by
  rw [show (10000 : Nat) = 9999 + 1 from rfl, run_equalIn_agg W 9999 40 _ _ fields40 held40]
  simp only [Program.fieldsOf, Tryd.underlying40]
  go_simp
  by_cases h1 : o = o2 <;> by_cases h2 : x = x2 <;> by_cases h3 : y = y2 <;> by_cases h4 : z = z2 <;> simp [h1, h2, h3, h4]

def eq6 (c d : Cd) : Bool := c.letters == d.letters && c.planes == d.planes && c.regs == d.regs && c.lo == d.lo && c.hi == d.hi && c.most == d.most
def sameB (c d : Cd) : Bool := decide (c.table = d.table) && decide (c.consts = d.consts) && decide (c.cell = d.cell) && decide (c.arrows = d.arrows) && eq6 c d
theorem sameB_iff {c d : Cd} : sameB c d = true ↔ c = d := by
  obtain ⟨a1, a2, a3, a4, a5, a6, a7, a8, a9, a10⟩ := c
  obtain ⟨b1, b2, b3, b4, b5, b6, b7, b8, b9, b10⟩ := d
  simp only [sameB, eq6, Bool.and_eq_true, decide_eq_true_eq, beq_iff_eq, Cd.mk.injEq]
  constructor
  · rintro ⟨⟨⟨⟨rfl, rfl⟩, rfl⟩, rfl⟩, ⟨⟨⟨⟨rfl, rfl⟩, rfl⟩, rfl⟩, rfl⟩, rfl⟩; simp
  · rintro ⟨rfl, rfl, rfl, rfl, rfl, rfl, rfl, rfl, rfl, rfl⟩; simp
/-- Two boxes. -/
structure B2 (w : World) (cs ds : Array Value) (wr : World) : Prop where
  low : Below w.heap.size w wr
  one : wr.heap[w.heap.size]? = some (.cells cs 26 (0, 0))
  two : wr.heap[w.heap.size + 1]? = some (.cells ds 26 (0, 0))
theorem B2.start (w : World) (cs ds : Array Value) : B2 w cs ds ((w.alloc (.cells cs 26)).alloc (.cells ds 26)) := by
  refine ⟨(below_new _).alloc (by simp) _, ?_, ?_⟩
  · rw [(below_new _).block _ (by simp), heap_alloc_new]
  · rw [show w.heap.size + 1 = (w.alloc (.cells cs 26)).heap.size by simp, heap_alloc_new]
theorem B2.next {w : World} {cs ds : Array Value} {wr w2 : World} (h : B2 w cs ds wr) (hb : Below wr.heap.size wr w2) : B2 w cs ds w2 :=
  ⟨h.low.trans (hb.mono h.low.size), by rw [hb.block _ (lt_block h.one)]; exact h.one, by rw [hb.block _ (lt_block h.two)]; exact h.two⟩
theorem B2.c {w : World} {cs ds : Array Value} {wr : World} (h : B2 w cs ds wr) (i : Nat) (v : Value) (hv : cs[i]? = some v) : wr.cell? ⟨w.heap.size, i, none⟩ = some v := cell_block h.one i v hv
theorem B2.d {w : World} {cs ds : Array Value} {wr : World} (h : B2 w cs ds wr) (i : Nat) (v : Value) (hv : ds[i]? = some v) : wr.cell? ⟨w.heap.size + 1, i, none⟩ = some v := cell_block h.two i v hv
theorem below_dr {w : World} (n : Nat) : Below w.heap.size w (w.drewN n) := below_drewN (Below.refl _ _) n

set_option maxRecDepth 20000 in
set_option maxHeartbeats 4000000 in
theorem same_calls (c d : Cd) (s t : Ls) (w : World) (h : CdAt w c s) (k : CdAt w d t) :
    Calls Tryd.prog 19 #[.agg (cdCells c s), .agg (cdCells d t)] w fun e w' => e = .returned (.bool (sameB c d)) ∧ Below w.heap.size w w' := by
  have q1 := h.cell.short
  have q2 := k.cell.short
  have q3 := h.arrows.short
  have q4' := k.arrows.short
  unfold maxLen at q1 q2 q3 q4'
  have HC : Hid (CdAt w c s) := h
  have HD : Hid (CdAt w d t) := k
  clear h k
  obtain ⟨L, pl, rg, lo, hi, mo, tbl, ks, cs, ar⟩ := c
  obtain ⟨L2, pl2, rg2, lo2, hi2, mo2, tbl2, ks2, cs2, ar2⟩ := d
  obtain ⟨⟨ta, tn, tc⟩, ⟨ka, kn, kc⟩, ⟨ia, n3, ic⟩, ⟨ra, rn, rc⟩⟩ := s
  obtain ⟨⟨tb, tm, td⟩, ⟨kb, km, kd⟩, ⟨ib, m3, id2⟩, ⟨rb, rm, rd2⟩⟩ := t
  simp only at q1 q2 q3 q4'
  obtain ⟨r1, h1⟩ : ∃ r, decide (tbl = tbl2) = r := ⟨_, rfl⟩
  obtain ⟨r2, h2⟩ : ∃ r, decide (ks = ks2) = r := ⟨_, rfl⟩
  obtain ⟨e6, h6⟩ : ∃ r, eq6 ⟨L, pl, rg, lo, hi, mo, tbl, ks, cs, ar⟩ ⟨L2, pl2, rg2, lo2, hi2, mo2, tbl2, ks2, cs2, ar2⟩ = r := ⟨_, rfl⟩
  have HE : Hid (sameB ⟨L, pl, rg, lo, hi, mo, tbl, ks, cs, ar⟩ ⟨L2, pl2, rg2, lo2, hi2, mo2, tbl2, ks2, cs2, ar2⟩ = (r1 && r2 && decide (cs = cs2) && decide (ar = ar2) && e6)) := by show _ = _; rw [← h1, ← h2, ← h6]; rfl
  have H1 : Hid (decide (tbl = tbl2) = r1) := h1
  have H2 : Hid (decide (ks = ks2) = r2) := h2
  have H6 : Hid ((L == L2 && pl == pl2 && rg == rg2 && lo == lo2 && hi == hi2 && mo == mo2) = e6) := h6
  clear h1 h2 h6
  have HX0 : Hid (B2 w #[.int .i64 L, .int .i64 pl, .int .i64 rg, .int .i64 lo, .int .i64 hi, .int .i64 mo, .slice ta tn tc, .slice ka kn kc, .slice ia n3 ic, .slice ra rn rc] #[.int .i64 L2, .int .i64 pl2, .int .i64 rg2, .int .i64 lo2, .int .i64 hi2, .int .i64 mo2, .slice tb tm td, .slice kb km kd, .slice ib m3 id2, .slice rb rm rd2] ((w.alloc (.cells #[.int .i64 L, .int .i64 pl, .int .i64 rg, .int .i64 lo, .int .i64 hi, .int .i64 mo, .slice ta tn tc, .slice ka kn kc, .slice ia n3 ic, .slice ra rn rc] 26)).alloc (.cells #[.int .i64 L2, .int .i64 pl2, .int .i64 rg2, .int .i64 lo2, .int .i64 hi2, .int .i64 mo2, .slice tb tm td, .slice kb km kd, .slice ib m3 id2, .slice rb rm rd2] 26))) := B2.start w _ _
  have HC0 : Hid (∀ W, Below w.heap.size w W → IntsAt W ta tn tbl ∧ IntsAt W ka kn ks ∧ QdsAt W ia n3 cs ∧ QdsAt W ra rn ar) := fun W hW => ⟨(HC.out.below hW).table, (HC.out.below hW).consts, (HC.out.below hW).cell, (HC.out.below hW).arrows⟩
  have HD0 : Hid (∀ W, Below w.heap.size w W → IntsAt W tb tm tbl2 ∧ IntsAt W kb km ks2 ∧ QdsAt W ib m3 cs2 ∧ QdsAt W rb rm ar2) := fun W hW => ⟨(HD.out.below hW).table, (HD.out.below hW).consts, (HD.out.below hW).cell, (HD.out.below hW).arrows⟩
  have HLn : Hid (cs.length = n3 ∧ cs2.length = m3 ∧ ar.length = rn ∧ ar2.length = rm) := ⟨HC.out.cell.length, HD.out.cell.length, HC.out.arrows.length, HD.out.arrows.length⟩
  clear HC HD
  simp only [cdCells]
  go_enter Tryd.func19, Tryd.ntmps19
  go_wp2_with fail
  refine (numbersL_calls _ _ _ _ _ _ tbl tbl2 _ (HC0.out _ HX0.out.low).1 (HD0.out _ HX0.out.low).1).mono ?_
  rintro e w1 ⟨rfl, n1, hw1⟩
  rw [H1.out]
  have HX1 : Hid (B2 w #[.int .i64 L, .int .i64 pl, .int .i64 rg, .int .i64 lo, .int .i64 hi, .int .i64 mo, .slice ta tn tc, .slice ka kn kc, .slice ia n3 ic, .slice ra rn rc] #[.int .i64 L2, .int .i64 pl2, .int .i64 rg2, .int .i64 lo2, .int .i64 hi2, .int .i64 mo2, .slice tb tm td, .slice kb km kd, .slice ib m3 id2, .slice rb rm rd2] w1) := by rw [hw1]; exact HX0.out.next (below_dr n1)
  clear hw1 HX0
  have c7 := HX1.out.c 7 (.slice ka kn kc) rfl
  have d7 := HX1.out.d 7 (.slice kb km kd) rfl
  go_wp2_with fail
  refine (numbersL_calls _ _ _ _ _ _ ks ks2 _ (HC0.out _ HX1.out.low).2.1 (HD0.out _ HX1.out.low).2.1).mono ?_
  rintro e w2 ⟨rfl, n2, hw2⟩
  rw [H2.out]
  have HX2 : Hid (B2 w #[.int .i64 L, .int .i64 pl, .int .i64 rg, .int .i64 lo, .int .i64 hi, .int .i64 mo, .slice ta tn tc, .slice ka kn kc, .slice ia n3 ic, .slice ra rn rc] #[.int .i64 L2, .int .i64 pl2, .int .i64 rg2, .int .i64 lo2, .int .i64 hi2, .int .i64 mo2, .slice tb tm td, .slice kb km kd, .slice ib m3 id2, .slice rb rm rd2] w2) := by rw [hw2]; exact HX1.out.next (below_dr n2)
  clear hw2 HX1 c7 d7
  have c8 := HX2.out.c 8 (.slice ia n3 ic) rfl
  have d8 := HX2.out.d 8 (.slice ib m3 id2) rfl
  have c9 := HX2.out.c 9 (.slice ra rn rc) rfl
  have d9 := HX2.out.d 9 (.slice rb rm rd2) rfl
  cases r1
  · go_wp2
    go_ret
    exact ⟨ret_bool (by rw [HE.out]; rfl), HX2.out.low⟩
  cases r2
  · go_wp2
    go_ret
    exact ⟨ret_bool (by rw [HE.out]; rfl), HX2.out.low⟩
  by_cases hn1 : n3 = m3
  case neg =>
    have hb : ((n3 : Int) != (m3 : Int)) = true := by rw [bne_iff_ne]; omega
    have HF : Hid (decide (cs = cs2) = false) := decide_eq_false (fun e => hn1 (by rw [← HLn.out.1, ← HLn.out.2.1, e]))
    clear hn1
    go_wp2
    go_ret
    exact ⟨ret_bool (by rw [HE.out, HF.out]; simp), HX2.out.low⟩
  have hb : ((n3 : Int) != (m3 : Int)) = false := by simp [hn1]
  by_cases hn2 : rn = rm
  case neg =>
    have hb2 : ((rn : Int) != (rm : Int)) = true := by rw [bne_iff_ne]; omega
    have HF : Hid (decide (ar = ar2) = false) := decide_eq_false (fun e => hn2 (by rw [← HLn.out.2.2.1, ← HLn.out.2.2.2, e]))
    clear hn2 hn1
    go_wp2
    go_ret
    exact ⟨ret_bool (by rw [HE.out, HF.out]; simp), HX2.out.low⟩
  have hb2 : ((rn : Int) != (rm : Int)) = false := by simp [hn2]
  have HNN : Hid (n3 = m3 ∧ rn = rm) := ⟨hn1, hn2⟩
  clear hn1 hn2
  go_wp2
  clear c8 d8 c9 d9 hb hb2
  go_loopw [7] (fun i wr => ∃ k : Nat, k ≤ n3 ∧ i = .int .i64 k ∧ cs.take k = cs2.take k ∧ B2 w #[.int .i64 L, .int .i64 pl, .int .i64 rg, .int .i64 lo, .int .i64 hi, .int .i64 mo, .slice ta tn tc, .slice ka kn kc, .slice ia n3 ic, .slice ra rn rc] #[.int .i64 L2, .int .i64 pl2, .int .i64 rg2, .int .i64 lo2, .int .i64 hi2, .int .i64 mo2, .slice tb tm td, .slice kb km kd, .slice ib m3 id2, .slice rb rm rd2] wr) (fun i _ => n3 - (intOf i).toNat)
  case atStart => exact ⟨0, Nat.zero_le _, rfl, by simp, HX2.out⟩
  case round =>
    obtain ⟨k, hk, rfl, heq, hbx⟩ := hrel
    have HEq : Hid (cs.take k = cs2.take k) := heq
    have HX : Hid (B2 w #[.int .i64 L, .int .i64 pl, .int .i64 rg, .int .i64 lo, .int .i64 hi, .int .i64 mo, .slice ta tn tc, .slice ka kn kc, .slice ia n3 ic, .slice ra rn rc] #[.int .i64 L2, .int .i64 pl2, .int .i64 rg2, .int .i64 lo2, .int .i64 hi2, .int .i64 mo2, .slice tb tm td, .slice kb km kd, .slice ib m3 id2, .slice rb rm rd2] wr) := hbx
    have c8 := hbx.c 8 (.slice ia n3 ic) rfl
    have d8 := hbx.d 8 (.slice ib m3 id2) rfl
    clear heq hbx
    by_cases hlt : k < n3
    · obtain ⟨q, hq⟩ := get_lt (l := cs) (k := k) (by rw [HLn.out.1]; exact hlt)
      obtain ⟨p, hp⟩ := get_lt (l := cs2) (k := k) (by rw [HLn.out.2.1, ← HNN.out.1]; exact hlt)
      have hltm : k < m3 := by rw [← HNN.out.1]; exact hlt
      obtain ⟨b1, o1, hao1, hc1⟩ := (HC0.out _ HX.out.low).2.2.1.cells (by omega)
      obtain ⟨b2, o2, hao2, hc2⟩ := (HD0.out _ HX.out.low).2.2.1.cells (by omega)
      subst hao1
      subst hao2
      obtain ⟨x1, x2, x3, x4⟩ := hc1 k q hq
      obtain ⟨y1, y2, y3, y4⟩ := hc2 k p hp
      have HQ : Hid (cs[k]? = some q ∧ cs2[k]? = some p) := ⟨hq, hp⟩
      have hgd := guard38
      obtain ⟨qa, qb, qc, qd⟩ := q
      obtain ⟨pa, pb, pc, pd⟩ := p
      simp only at x1 x2 x3 x4 y1 y2 y3 y4
      have heqn := equal_q38 qa qb qc qd pa pb pc pd
      generalize hdd : decide ((qa, qb, qc, qd) = (pa, pb, pc, pd)) = dd at heqn
      have HDD : Hid (decide ((qa, qb, qc, qd) = (pa, pb, pc, pd)) = dd) := hdd
      clear hc1 hc2 hq hp hdd
      go_wp2_with fail
      go_quiet (fail)
      have HXn : Hid (B2 w _ _ (wr.drewN nq)) := HX.out.next (below_dr nq)
      cases dd with
      | true =>
        have HN : Hid (cs.take (k + 1) = cs2.take (k + 1)) := take_nextG HQ.out.1 HQ.out.2 HEq.out (of_decide_eq_true HDD.out)
        generalize wr.drewN nq = wz at *
        clear heqn HDD
        go_wp2
        go_roundw
        case rel => exact ⟨k + 1, by omega, by go_num, HN.out, HXn.out⟩
        case measure => simp [intOf]; omega
      | false =>
        have HN : Hid (decide (cs = cs2) = false) := decide_eq_false (take_not HQ.out.1 HQ.out.2 (of_decide_eq_false HDD.out))
        generalize wr.drewN nq = wz at *
        clear heqn HDD
        go_wp2
        go_ret
        exact ⟨ret_bool (by rw [HE.out, HN.out]; simp), HXn.out.low⟩
    · have HN : Hid (decide (cs = cs2) = true) := by
        have h := HEq.out
        rw [List.take_of_length_le (by rw [HLn.out.1]; omega), List.take_of_length_le (by rw [HLn.out.2.1, ← HNN.out.1]; omega)] at h
        exact decide_eq_true h
      have HE2 : Hid (sameB ⟨L, pl, rg, lo, hi, mo, tbl, ks, cs, ar⟩ ⟨L2, pl2, rg2, lo2, hi2, mo2, tbl2, ks2, cs2, ar2⟩ = (decide (ar = ar2) && e6)) := by show _ = _; rw [HE.out, HN.out]; simp
      have HX9 : Hid (B2 w #[.int .i64 L, .int .i64 pl, .int .i64 rg, .int .i64 lo, .int .i64 hi, .int .i64 mo, .slice ta tn tc, .slice ka kn kc, .slice ia n3 ic, .slice ra rn rc] #[.int .i64 L2, .int .i64 pl2, .int .i64 rg2, .int .i64 lo2, .int .i64 hi2, .int .i64 mo2, .slice tb tm td, .slice kb km kd, .slice ib m3 id2, .slice rb rm rd2] wr) := HX.out
      clear HN HEq HX d8
      go_wp2
      go_loopw [8] (fun i wr => ∃ k : Nat, k ≤ rn ∧ i = .int .i64 k ∧ ar.take k = ar2.take k ∧ B2 w #[.int .i64 L, .int .i64 pl, .int .i64 rg, .int .i64 lo, .int .i64 hi, .int .i64 mo, .slice ta tn tc, .slice ka kn kc, .slice ia n3 ic, .slice ra rn rc] #[.int .i64 L2, .int .i64 pl2, .int .i64 rg2, .int .i64 lo2, .int .i64 hi2, .int .i64 mo2, .slice tb tm td, .slice kb km kd, .slice ib m3 id2, .slice rb rm rd2] wr) (fun i _ => rn - (intOf i).toNat)
      case atStart => exact ⟨0, Nat.zero_le _, rfl, by simp, HX9.out⟩
      case round =>
        obtain ⟨k, hk, rfl, heq, hbx⟩ := hrel
        have HEq : Hid (ar.take k = ar2.take k) := heq
        have HX : Hid (B2 w #[.int .i64 L, .int .i64 pl, .int .i64 rg, .int .i64 lo, .int .i64 hi, .int .i64 mo, .slice ta tn tc, .slice ka kn kc, .slice ia n3 ic, .slice ra rn rc] #[.int .i64 L2, .int .i64 pl2, .int .i64 rg2, .int .i64 lo2, .int .i64 hi2, .int .i64 mo2, .slice tb tm td, .slice kb km kd, .slice ib m3 id2, .slice rb rm rd2] wr) := hbx
        have c8 := hbx.c 9 (.slice ra rn rc) rfl
        have d8 := hbx.d 9 (.slice rb rm rd2) rfl
        clear heq hbx
        by_cases hlt : k < rn
        · obtain ⟨q, hq⟩ := get_lt (l := ar) (k := k) (by rw [HLn.out.2.2.1]; exact hlt)
          obtain ⟨p, hp⟩ := get_lt (l := ar2) (k := k) (by rw [HLn.out.2.2.2, ← HNN.out.2]; exact hlt)
          have hltm : k < rm := by rw [← HNN.out.2]; exact hlt
          obtain ⟨b1, o1, hao1, hc1⟩ := (HC0.out _ HX.out.low).2.2.2.cells (by omega)
          obtain ⟨b2, o2, hao2, hc2⟩ := (HD0.out _ HX.out.low).2.2.2.cells (by omega)
          subst hao1
          subst hao2
          obtain ⟨x1, x2, x3, x4⟩ := hc1 k q hq
          obtain ⟨y1, y2, y3, y4⟩ := hc2 k p hp
          have HQ : Hid (ar[k]? = some q ∧ ar2[k]? = some p) := ⟨hq, hp⟩
          have hgd := guard40
          obtain ⟨qa, qb, qc, qd⟩ := q
          obtain ⟨pa, pb, pc, pd⟩ := p
          simp only at x1 x2 x3 x4 y1 y2 y3 y4
          have heqn := equal_q40 qa qb qc qd pa pb pc pd
          generalize hdd : decide ((qa, qb, qc, qd) = (pa, pb, pc, pd)) = dd at heqn
          have HDD : Hid (decide ((qa, qb, qc, qd) = (pa, pb, pc, pd)) = dd) := hdd
          clear hc1 hc2 hq hp hdd
          go_wp2_with fail
          go_quiet (fail)
          have HXn : Hid (B2 w _ _ (wr.drewN nq)) := HX.out.next (below_dr nq)
          cases dd with
          | true =>
            have HN : Hid (ar.take (k + 1) = ar2.take (k + 1)) := take_nextG HQ.out.1 HQ.out.2 HEq.out (of_decide_eq_true HDD.out)
            generalize wr.drewN nq = wz at *
            clear heqn HDD
            go_wp2
            go_roundw
            case rel => exact ⟨k + 1, by omega, by go_num, HN.out, HXn.out⟩
            case measure => simp [intOf]; omega
          | false =>
            have HN : Hid (decide (ar = ar2) = false) := decide_eq_false (take_not HQ.out.1 HQ.out.2 (of_decide_eq_false HDD.out))
            generalize wr.drewN nq = wz at *
            clear heqn HDD
            go_wp2
            go_ret
            exact ⟨ret_bool (by rw [HE2.out, HN.out]; simp), HXn.out.low⟩
        · have HN : Hid (decide (ar = ar2) = true) := by
            have h := HEq.out
            rw [List.take_of_length_le (by rw [HLn.out.2.2.1]; omega), List.take_of_length_le (by rw [HLn.out.2.2.2, ← HNN.out.2]; omega)] at h
            exact decide_eq_true h
          have HE3 : Hid (sameB ⟨L, pl, rg, lo, hi, mo, tbl, ks, cs, ar⟩ ⟨L2, pl2, rg2, lo2, hi2, mo2, tbl2, ks2, cs2, ar2⟩ = e6) := by show _ = _; rw [HE2.out, HN.out]; simp
          have f0 := HX.out.c 0 (.int .i64 L) rfl
          have g0 := HX.out.d 0 (.int .i64 L2) rfl
          have f1 := HX.out.c 1 (.int .i64 pl) rfl
          have g1 := HX.out.d 1 (.int .i64 pl2) rfl
          have f2 := HX.out.c 2 (.int .i64 rg) rfl
          have g2 := HX.out.d 2 (.int .i64 rg2) rfl
          have f3 := HX.out.c 3 (.int .i64 lo) rfl
          have g3 := HX.out.d 3 (.int .i64 lo2) rfl
          have f4 := HX.out.c 4 (.int .i64 hi) rfl
          have g4 := HX.out.d 4 (.int .i64 hi2) rfl
          have f5 := HX.out.c 5 (.int .i64 mo) rfl
          have g5 := HX.out.d 5 (.int .i64 mo2) rfl
          obtain ⟨t0, ht0⟩ : ∃ t, (L == L2) = t := ⟨_, rfl⟩
          have HT0 : Hid ((L == L2) = t0) := ht0
          cases t0
          · have HF : Hid (e6 = false) := by show _ = _; rw [← H6.out, HT0.out]; simp
            go_wp2
            go_ret
            exact ⟨ret_bool (by rw [HE3.out, HF.out]), HX.out.low⟩
          obtain ⟨t1, ht1⟩ : ∃ t, (pl == pl2) = t := ⟨_, rfl⟩
          have HT1 : Hid ((pl == pl2) = t1) := ht1
          cases t1
          · have HF : Hid (e6 = false) := by show _ = _; rw [← H6.out, HT0.out, HT1.out]; simp
            go_wp2
            go_ret
            exact ⟨ret_bool (by rw [HE3.out, HF.out]), HX.out.low⟩
          obtain ⟨t2, ht2⟩ : ∃ t, (rg == rg2) = t := ⟨_, rfl⟩
          have HT2 : Hid ((rg == rg2) = t2) := ht2
          cases t2
          · have HF : Hid (e6 = false) := by show _ = _; rw [← H6.out, HT0.out, HT1.out, HT2.out]; simp
            go_wp2
            go_ret
            exact ⟨ret_bool (by rw [HE3.out, HF.out]), HX.out.low⟩
          obtain ⟨t3, ht3⟩ : ∃ t, (lo == lo2) = t := ⟨_, rfl⟩
          have HT3 : Hid ((lo == lo2) = t3) := ht3
          cases t3
          · have HF : Hid (e6 = false) := by show _ = _; rw [← H6.out, HT0.out, HT1.out, HT2.out, HT3.out]; simp
            go_wp2
            go_ret
            exact ⟨ret_bool (by rw [HE3.out, HF.out]), HX.out.low⟩
          obtain ⟨t4, ht4⟩ : ∃ t, (hi == hi2) = t := ⟨_, rfl⟩
          have HT4 : Hid ((hi == hi2) = t4) := ht4
          cases t4
          · have HF : Hid (e6 = false) := by show _ = _; rw [← H6.out, HT0.out, HT1.out, HT2.out, HT3.out, HT4.out]; simp
            go_wp2
            go_ret
            exact ⟨ret_bool (by rw [HE3.out, HF.out]), HX.out.low⟩
          have HF : Hid (e6 = (mo == mo2)) := by show _ = _; rw [← H6.out, HT0.out, HT1.out, HT2.out, HT3.out, HT4.out]; simp
          go_wp2
          go_ret
          exact ⟨ret_bool (by rw [HE3.out, HF.out]), HX.out.low⟩

end Go.Proofs.YtignpgoicoojiaaDoor
