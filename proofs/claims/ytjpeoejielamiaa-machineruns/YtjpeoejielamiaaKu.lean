/-
  The law's own best 19: both tell the same best end, and lend it.. The law's own arrows 18: the table lends the code's arrows.. What the law needs besides: no end found, no planes; a world cut at a height.
-/
import Derived.Test.YtjpeoejielamiaaKt
namespace Go.Proofs.Ytjpeoejielamiaa
open Go.RowKit

theorem intVals_set (l : List Int) (j : Nat) (z : Int) : (intVals l).set j (.int .i64 z) = intVals (l.set j z) := by
  unfold intVals
  rw [List.map_set]
theorem own_keep {w wa : World} {B1 B n n2 cap c2 : Nat} {E : TypeId} {z : Nat} {ao ao2 : Option Addr} {xs : List Value} (h1 : w.ownsRow B1 E z (.slice ao n cap) n xs) (hB : ∀ g2, ao2 = some g2 → B ≤ g2.block ∧ ∀ g1, ao = some g1 → g1.block < B) (hg : w.grownBy wa (Value.slice ao2 n2 c2).ownBlock) : wa.ownsRow B1 E z (.slice ao n cap) n xs := by
  refine ⟨h1.1, ?_⟩
  rcases h1.2 with ⟨hv, h0⟩ | ⟨g, cap', cur, hv, hb, hgr, r⟩
  · exact Or.inl ⟨hv, h0⟩
  · refine Or.inr ⟨g, cap', cur, hv, hb, ?_, r⟩
    cases hv
    rw [hg.block g (lt_block hgr) (fun e => ?_)]
    · exact hgr
    · cases ao2 with
      | none => simp [Value.ownBlock] at e
      | some a =>
        simp only [Value.ownBlock, Option.some.injEq] at e
        obtain ⟨q1, q2⟩ := hB a rfl
        have := q2 _ rfl
        simp only at this
        omega
theorem own_apart {w : World} {B1 B n cap : Nat} {E : TypeId} {z : Nat} {ao : Option Addr} {xs : List Value} {a : Addr} (h1 : w.ownsRow B1 E z (.slice ao n cap) n xs) (hB : B ≤ a.block ∧ ∀ g1, ao = some g1 → g1.block < B) (u : Value) : (w.setCell a u).ownsRow B1 E z (.slice ao n cap) n xs := by
  refine ownsRow_setCell_other h1 (fun e => ?_) u
  cases ao with
  | none => simp [Value.ownBlock] at e
  | some b =>
    simp only [Value.ownBlock, Option.some.injEq] at e
    have := hB.2 _ rfl
    omega
theorem ints_get {l : List Int} {j : Nat} (hj : j < l.length) : (intVals l)[j]? = some (.int .i64 (l.getD j 0)) := by
  rw [intVals, List.getElem?_map, getD_get hj]
  rfl
set_option maxRecDepth 10000 in
set_option maxHeartbeats 4000000 in
theorem tbest_calls {w0 w : World} {p : Dp} {c : Cd} {s : Ls} {sx sy se sa : Sl} {x y : List Int} {M : Ms} {st st1 : Int} {g gs : Nat} (hT : Tb w g gs c.planes.toNat x.length y.length sa M.slots M.ends st1) (h : Dt w0 w p c s sx sy x y se M st) (hp : ∀ k, M.ends.planes k = true → k < c.planes.toNat) (hP : c.planes.toNat ≤ 10) (hf : M.ends.found = false → ∀ k, M.ends.planes k = false) :
    Calls Try.prog 19 #[.pointer (some ⟨g, 0, none⟩), .pointer (some ⟨p.b, 0, none⟩)] w fun e w' => e = .returned (.bool true) ∧ Below w.heap.size w w' := by
  have HT : Hid (∀ W, Below w.heap.size w W → Calls Try.prog 24 #[.pointer (some ⟨g, 0, none⟩)] W (BestPost M.ends W)) := fun W hW => best_calls (hT.next hW)
  have HD : Hid (Calls Try.prog 34 #[.pointer (some ⟨p.b, 0, none⟩)] w (BestPost M.ends w)) := dbest_calls h hp hP hf
  have hl10 : (risB M.ends).length ≤ 10 := risL_len M.ends.planes 10
  generalize M.ends = e at *
  obtain ⟨l, hl⟩ : ∃ l, risB e = l := ⟨_, rfl⟩
  obtain ⟨n, hn⟩ : ∃ n, l.length = n := ⟨_, rfl⟩
  have HL : Hid (risB e = l ∧ l.length = n) := ⟨hl, hn⟩
  rw [hl, hn] at hl10
  clear hT h hp hP hf hl hn
  obtain ⟨i1, hi1, hz1, hz2, hz3⟩ := info_parts info3
  have HI : Hid (Try.prog.info? 3 = some i1 ∧ i1.zero = some (.int .i64 0) ∧ i1.size = 1 ∧ i1.bytes = 8) := ⟨hi1, hz1, hz2, hz3⟩
  clear hi1 hz1 hz2 hz3
  go_enter Try.func19, Try.ntmps19
  go_wp2_with fail
  refine HD.out.mono ?_
  rintro r w1 ⟨ao, cap, rfl, ho, hb⟩
  rw [HL.out.1, HL.out.2] at ho
  rw [HL.out.1, HL.out.2]
  have HO : Hid (w1.ownsRow w.heap.size 3 1 (.slice ao n cap) n (intVals l) ∧ Below w.heap.size w w1) := ⟨ho, hb⟩
  clear ho hb HD
  obtain ⟨ef, es, ei, ej, ep⟩ := e
  simp only
  have b1 : (ef != ef) = false := by simp
  have b2 : (es != es) = false := by simp
  have b3 : (ei != ei) = false := by simp
  have b4 : (ej != ej) = false := by simp
  have b5 : ((n : Int) != (n : Int)) = false := by simp
  go_wp2
  go_loopg [10, 11, 12, 13, 14, 15, 16] 2 (fun q v10 _ _ _ _ _ _ wr => ∃ k : Nat, k + q = 2 ∧ v10 = .int .i64 (k : Int) ∧ Hid (wr.ownsRow w.heap.size 3 1 (.slice ao n cap) n (intVals l) ∧ Below w.heap.size w wr))
  case atStart => exact ⟨0, by omega, rfl, HO⟩
  case round =>
    clear HO
    obtain ⟨k, hk2, rfl, HO⟩ := hrel
    by_cases hk : k < 2
    rotate_left
    · have hd : decide ((k : Int) < 2) = false := decide_eq_false (by omega)
      go_wp2
      go_ret
      exact ⟨rfl, HO.out.2⟩
    have hd : decide ((k : Int) < 2) = true := decide_eq_true (by omega)
    obtain ⟨gk1, rfl⟩ : ∃ v, v = gk := ⟨_, rfl⟩
    have hgk : 0 < gk1 := by omega
    go_wp2_with fail
    refine (HT.out _ HO.out.2).mono ?_
    rintro r w2 ⟨ao2, cap2, rfl, ho2, hb2⟩
    rw [HL.out.1, HL.out.2] at ho2
    rw [HL.out.1, HL.out.2]
    simp only
    have HO2 : Hid (w2.ownsRow w.heap.size 3 1 (.slice ao n cap) n (intVals l) ∧ Below w.heap.size w w2 ∧ w2.ownsRow wr.heap.size 3 1 (.slice ao2 n cap2) n (intVals l)) := ⟨owned_below HO.out.1 hb2, HO.out.2.trans (hb2.mono HO.out.2.size), ho2⟩
    have HBl : Hid (∀ g2, ao2 = some g2 → wr.heap.size ≤ g2.block ∧ ∀ g1, ao = some g1 → g1.block < wr.heap.size) := by
      intro g2 e2
      refine ⟨?_, fun g1 e1 => ?_⟩
      · rcases ho2.2 with ⟨hv, _⟩ | ⟨g', cap', cur, hv, hbb, _⟩
        · cases hv; cases e2
        · cases hv; cases e2; exact hbb
      · rcases HO.out.1.2 with ⟨hv, _⟩ | ⟨g', cap', cur, hv, _, hgg, _⟩
        · cases hv; cases e1
        · cases hv; cases e1; exact lt_block hgg
    obtain ⟨B, hB⟩ : ∃ B, wr.heap.size = B := ⟨_, rfl⟩
    have HBs : Hid (w.heap.size ≤ B) := by show _ ≤ _; rw [← hB]; exact HO.out.2.size
    have HBz : Hid (B ≤ w2.heap.size) := by show _ ≤ _; rw [← hB]; exact hb2.size
    rw [hB] at HO2 HBl
    clear ho2 hb2 HO hB
    go_wp2
    go_loopg [16] n (fun q v16 wr2 => ∃ (j : Nat) (l2 : List Int), j + q = n ∧ v16 = .int .i64 (j : Int) ∧ Hid (wr2.ownsRow w.heap.size 3 1 (.slice ao n cap) n (intVals l) ∧ Below w.heap.size w wr2 ∧ wr2.ownsRow B 3 1 (.slice ao2 n cap2) n (intVals l2) ∧ l2.length = n ∧ (∀ m, j ≤ m → l2[m]? = l[m]?) ∧ B ≤ wr2.heap.size))
    case atStart => exact ⟨0, l, by omega, rfl, ⟨HO2.out.1, HO2.out.2.1, HO2.out.2.2, HL.out.2, fun _ _ => rfl, HBz.out⟩⟩
    case round =>
      clear HO2
      obtain ⟨j, l2, hjn, rfl, HO⟩ := hrel
      by_cases hj : j < n
      rotate_left
      · have hd2 : decide ((j : Int) < (n : Int)) = false := decide_eq_false (by omega)
        obtain ⟨i1, HI⟩ : ∃ i1, Hid (Try.prog.info? 3 = some i1 ∧ i1.zero = some (.int .i64 0) ∧ i1.size = 1 ∧ i1.bytes = 8) := ⟨i1, HI⟩
        obtain ⟨hi1, hz1, hz2, hz3⟩ := HI.out
        go_wp2_with (at_builtin; go_loud (refine wpList_append_own _ rfl _ _ 22 rfl B 3 i1 (.int .i64 0) 1 8 Try.underlying22 hi1 hz1 hz2 hz3 rfl (by decide) (.slice ao2 n cap2) _ _ rfl (HO.out.2.2.1.alloc _) ⟨_, 0, none⟩ 1 1 [.int .i64 1] rfl rfl ?c1 (one_int 1) ?c3 ?c4 ?c5 ?_))
        case c1 => exact cells_new4 wr [.int .i64 1] 3
        case c3 => unfold maxLen; omega
        case c4 => omega
        case c5 => have := HO.out.2.2.2.2.2; simp; omega
        intro v' w3 hown' hgrow _
        have HO3 : Hid (w3.ownsRow w.heap.size 3 1 (.slice ao n cap) n (intVals l) ∧ Below w.heap.size w w3) := by
          obtain ⟨h1, h2, h3, _⟩ := HO.out
          exact ⟨own_keep (h1.alloc _) HBl.out hgrow, (h2.alloc h2.size _).grown hgrow (by have := h2.size; simp; omega) (own_blk (owned_base h3 HBs.out))⟩
        clear hown' hgrow HO HBl
        go_wp2
        go_roundg (gk1 - 1)
        case rel => exact ⟨k + 1, by omega, by go_num, HO3⟩
        case measure => omega
      have hd2 : decide ((j : Int) < (n : Int)) = true := decide_eq_true (by omega)
      have hgk2 : 0 < gk := by omega
      obtain ⟨h1, h2, h3, h4, h5, h6⟩ := HO.out
      obtain ⟨g2, c2, hv2, hg2, _⟩ := owned_some h3 (by omega)
      obtain ⟨g1, c1, hv1, _⟩ := owned_some h1 (by omega)
      cases hv2
      cases hv1
      have HBg : Hid (B ≤ g2 ∧ g1 < B) := ⟨hg2, (HBl.out _ rfl).2 _ rfl⟩
      have x1 := (owned_cells h1 j _ (ints_get (by rw [HL.out.2]; exact hj))).1
      have hz : l2.getD j 0 = l.getD j 0 := by rw [List.getD_eq_getElem?_getD, List.getD_eq_getElem?_getD, h5 j (Nat.le_refl _)]
      have x2 := (owned_cells h3 j _ (ints_get (by rw [h4]; exact hj))).1
      rw [hz] at x2
      generalize l.getD j 0 = z at *
      have hzz : (z != z) = false := by simp
      clear h1 h2 h3 h4 h5 h6 hz hg2
      go_upto_region 11 with (fail)
      go_quiet (fail)
      have HQ : Hid (Below wr.heap.size wr (wr.drewN nq)) := below_drewN (Below.refl _ _) nq
      generalize wr.drewN nq = wq at *
      clear x1 x2
      have HOq : Hid (wq.ownsRow w.heap.size 3 1 (.slice (some ⟨g1, 0, none⟩) n cap) n (intVals l) ∧ Below w.heap.size w wq ∧ wq.ownsRow B 3 1 (.slice (some ⟨g2, 0, none⟩) n cap2) n (intVals l2) ∧ l2.length = n ∧ (∀ m, j ≤ m → l2[m]? = l[m]?) ∧ B ≤ wq.heap.size) := by
        obtain ⟨h1, h2, h3, h4, h5, h6⟩ := HO.out
        exact ⟨owned_below h1 HQ.out, h2.trans (HQ.out.mono h2.size), owned_below h3 HQ.out, h4, h5, Nat.le_trans h6 HQ.out.size⟩
      clear HO HQ
      have y2 := owned_cells HOq.out.2.2.1 j _ (ints_get (by rw [HOq.out.2.2.2.1]; exact hj))
      obtain ⟨y2, f2⟩ := y2
      have HOn : Hid ((wq.setCell ⟨g2, j, none⟩ (.int .i64 (-9))).ownsRow w.heap.size 3 1 (.slice (some ⟨g1, 0, none⟩) n cap) n (intVals l) ∧ Below w.heap.size w (wq.setCell ⟨g2, j, none⟩ (.int .i64 (-9))) ∧ (wq.setCell ⟨g2, j, none⟩ (.int .i64 (-9))).ownsRow B 3 1 (.slice (some ⟨g2, 0, none⟩) n cap2) n (intVals (l2.set j (-9))) ∧ (l2.set j (-9)).length = n ∧ (∀ m, j + 1 ≤ m → (l2.set j (-9))[m]? = l[m]?) ∧ B ≤ (wq.setCell ⟨g2, j, none⟩ (.int .i64 (-9))).heap.size) := by
        obtain ⟨h1, h2, h3, h4, h5, h6⟩ := HOq.out
        have hwB : w.heap.size ≤ g2 := Nat.le_trans HBs.out HBg.out.1
        refine ⟨own_apart (B := B) h1 ⟨HBg.out.1, fun q e => by cases e; exact HBg.out.2⟩ _, h2.setCell (p := ⟨g2, j, none⟩) hwB _, ?_, by rw [List.length_set]; exact h4, fun m hm => ?_, ?_⟩
        · rw [← intVals_set]; exact owned_set h3 j _
        · rw [List.getElem?_set_ne (by omega)]; exact h5 m (by omega)
        · rw [show (wq.setCell ⟨g2, j, none⟩ (.int .i64 (-9))).heap.size = wq.heap.size from by simp]; exact h6
      clear HOq
      go_wp2
      clear y2 f2
      generalize wq.setCell ⟨g2, j, none⟩ (.int .i64 (-9)) = wz at *
      go_roundg (gk - 1)
      case rel => exact ⟨j + 1, _, by omega, by go_num, HOn⟩
      case measure => omega

end Go.Proofs.Ytjpeoejielamiaa

namespace Go.Proofs.Ytjpeoejielamiaa
open Go.RowKit

theorem one_four (a b c d : Int) : ∀ u ∈ [Value.int .i64 a, .int .i64 b, .int .i64 c, .int .i64 d], u.oneCell' = true := by
  intro u hu
  simp only [List.mem_cons, List.not_mem_nil, or_false] at hu
  rcases hu with rfl | rfl | rfl | rfl <;> rfl
set_option maxRecDepth 10000 in
set_option maxHeartbeats 4000000 in
theorem tips_calls {w : World} {c : Cd} {s : Ls} {g gs P X Y : Nat} {sa : Sl} {f : Nat → Ct} {e : En} {st : Int} (hT : Tb w g gs P X Y sa f e st) (ha : QdsAt w sa.a sa.n c.arrows) (hl : c.arrows.length ≤ 160) (hc : CdAt w c s) :
    Calls Try.prog 18 #[.pointer (some ⟨g, 0, none⟩), .agg (cdCells c s)] w fun e w' => e = .returned (.bool true) ∧ Below w.heap.size w w' := by
  have HT : Hid (∀ W, Below w.heap.size w W → Calls Try.prog 33 #[.pointer (some ⟨g, 0, none⟩)] W (ArPost c.arrows W)) := fun W hW => arrows_calls (hT.next hW) c.arrows (ha.below hW) (by have := ha.length; omega)
  have H0 : Hid (Bo w (w.alloc (.cells (cdCells c s) 26)) (cdCells c s)) := ⟨below_new _, heap_alloc_new _ _⟩
  have HA : Hid (QdsAt w s.r.a s.r.n c.arrows) := hc.arrows
  rw [show cdCells c s = #[.int .i64 c.letters, .int .i64 c.planes, .int .i64 c.regs, .int .i64 c.lo, .int .i64 c.hi, .int .i64 c.most, .slice s.t.a s.t.n s.t.c, .slice s.k.a s.k.n s.k.c, .slice s.i.a s.i.n s.i.c, .slice s.r.a s.r.n s.r.c] from rfl] at H0 ⊢
  clear hT ha hc
  obtain ⟨l, hll⟩ : ∃ l, c.arrows = l := ⟨_, rfl⟩
  rw [hll] at HT HA hl
  obtain ⟨n, hn⟩ : ∃ n, l.length = n := ⟨_, rfl⟩
  have HL : Hid (l.length = n ∧ s.r.n = n) := ⟨hn, by rw [← hn, HA.out.length]⟩
  rw [hn] at hl
  clear hll hn
  obtain ⟨i1, hi1, hz1, hz2, hz3⟩ := info_parts info41
  have HI : Hid (Try.prog.info? 41 = some i1 ∧ i1.zero = some (.agg #[.int .i64 0, .int .i64 0, .int .i64 0, .int .i64 0]) ∧ i1.size = 4 ∧ i1.bytes = 32) := ⟨hi1, hz1, hz2, hz3⟩
  clear hi1 hz1 hz2 hz3
  have b5 : ((n : Int) != (n : Int)) = false := by simp
  go_enter Try.func18, Try.ntmps18
  go_wp2
  go_loopg [5, 6, 7] 2 (fun q v5 _ _ wr => ∃ k : Nat, k + q = 2 ∧ v5 = .int .i64 (k : Int) ∧ Hid (Bo w wr #[.int .i64 c.letters, .int .i64 c.planes, .int .i64 c.regs, .int .i64 c.lo, .int .i64 c.hi, .int .i64 c.most, .slice s.t.a s.t.n s.t.c, .slice s.k.a s.k.n s.k.c, .slice s.i.a s.i.n s.i.c, .slice s.r.a s.r.n s.r.c]))
  case atStart => exact ⟨0, by omega, rfl, H0⟩
  case round =>
    clear H0
    obtain ⟨k, hk2, rfl, HO⟩ := hrel
    by_cases hk : k < 2
    rotate_left
    · have hd : decide ((k : Int) < 2) = false := decide_eq_false (by omega)
      go_wp2
      go_ret
      exact ⟨rfl, HO.out.low⟩
    have hd : decide ((k : Int) < 2) = true := decide_eq_true (by omega)
    obtain ⟨gk1, rfl⟩ : ∃ v, v = gk := ⟨_, rfl⟩
    have hgk : 0 < gk1 := by omega
    go_wp2_with fail
    refine (HT.out _ HO.out.low).mono ?_
    rintro r w2 ⟨ao2, cap2, rfl, ho2, hb2⟩
    rw [HL.out.1] at ho2
    rw [HL.out.1]
    obtain ⟨B, hB⟩ : ∃ B, wr.heap.size = B := ⟨_, rfl⟩
    have HBs : Hid (w.heap.size < B) := by show _ < _; rw [← hB]; exact lt_block HO.out.box
    have HO2 : Hid (Bo w w2 #[.int .i64 c.letters, .int .i64 c.planes, .int .i64 c.regs, .int .i64 c.lo, .int .i64 c.hi, .int .i64 c.most, .slice s.t.a s.t.n s.t.c, .slice s.k.a s.k.n s.k.c, .slice s.i.a s.i.n s.i.c, .slice s.r.a s.r.n s.r.c] ∧ w2.ownsRow B 41 4 (.slice ao2 n cap2) n (qdVals l) ∧ B ≤ w2.heap.size) := ⟨HO.out.next hb2, by rw [← hB]; exact ho2, by rw [← hB]; exact hb2.size⟩
    have c9 := HO2.out.1.cell 9 (v := .slice s.r.a s.r.n s.r.c) rfl
    rw [HL.out.2] at c9
    clear ho2 hb2 HO hB
    go_upto_region 7 with (fail)
    clear c9
    go_wp2
    go_loopg [7] n (fun q v7 wr2 => ∃ (j : Nat) (xs : List Value), j + q = n ∧ v7 = .int .i64 (j : Int) ∧ Hid (Bo w wr2 #[.int .i64 c.letters, .int .i64 c.planes, .int .i64 c.regs, .int .i64 c.lo, .int .i64 c.hi, .int .i64 c.most, .slice s.t.a s.t.n s.t.c, .slice s.k.a s.k.n s.k.c, .slice s.i.a s.i.n s.i.c, .slice s.r.a s.r.n s.r.c] ∧ wr2.ownsRow B 41 4 (.slice ao2 n cap2) n xs ∧ (∀ k, j * 4 ≤ k → xs[k]? = (qdVals l)[k]?) ∧ B ≤ wr2.heap.size))
    case atStart => exact ⟨0, qdVals l, by omega, rfl, ⟨HO2.out.1, HO2.out.2.1, fun _ _ => rfl, HO2.out.2.2⟩⟩
    case round =>
      clear HO2
      obtain ⟨j, xs, hjn, rfl, HO⟩ := hrel
      by_cases hj : j < n
      rotate_left
      · have hd2 : decide ((j : Int) < (n : Int)) = false := decide_eq_false (by omega)
        obtain ⟨hi1, hz1, hz2, hz3⟩ := HI.out
        go_wp2_with (at_builtin; go_loud (refine wpList_append_own _ rfl _ _ 24 rfl B 41 i1 (.agg #[.int .i64 0, .int .i64 0, .int .i64 0, .int .i64 0]) 4 32 Try.underlying24 hi1 hz1 hz2 hz3 rfl (by decide) (.slice ao2 n cap2) _ _ rfl (HO.out.2.1.alloc _) ⟨_, 0, none⟩ 1 1 [.int .i64 0, .int .i64 5, .int .i64 0, .int .i64 0] rfl rfl ?c1 (one_four 0 5 0 0) ?c3 ?c4 ?c5 ?_))
        case c1 => exact cells_new4 wr [.int .i64 0, .int .i64 5, .int .i64 0, .int .i64 0] 41
        case c3 => unfold maxLen; omega
        case c4 => omega
        case c5 => have := HO.out.2.2.2; simp; omega
        intro v' w3 hown' hgrow _
        have HO3 : Hid (Bo w w3 #[.int .i64 c.letters, .int .i64 c.planes, .int .i64 c.regs, .int .i64 c.lo, .int .i64 c.hi, .int .i64 c.most, .slice s.t.a s.t.n s.t.c, .slice s.k.a s.k.n s.k.c, .slice s.i.a s.i.n s.i.c, .slice s.r.a s.r.n s.r.c]) := by
          obtain ⟨h1, h3, _, h6⟩ := HO.out
          have hb0 : Below w.heap.size w w3 := (h1.low.alloc h1.low.size _).grown hgrow (by have := h1.low.size; simp; omega) (own_blk (owned_base h3 (Nat.le_of_lt HBs.out)))
          refine ⟨hb0, ?_⟩
          have hbx : (wr.alloc (.cells [Value.int .i64 0, .int .i64 5, .int .i64 0, .int .i64 0].toArray 41)).heap[w.heap.size]? = some (.cells #[.int .i64 c.letters, .int .i64 c.planes, .int .i64 c.regs, .int .i64 c.lo, .int .i64 c.hi, .int .i64 c.most, .slice s.t.a s.t.n s.t.c, .slice s.k.a s.k.n s.k.c, .slice s.i.a s.i.n s.i.c, .slice s.r.a s.r.n s.r.c] 26 (0, 0)) := by
            rw [(below_new _).block _ (lt_block h1.box)]; exact h1.box
          rw [hgrow.block _ (lt_block hbx) (fun e => by have := own_blk h3 _ e.symm; have := HBs.out; omega)]
          exact hbx
        clear hown' hgrow HO
        go_wp2
        go_roundg (gk1 - 1)
        case rel => exact ⟨k + 1, by omega, by go_num, HO3⟩
        case measure => omega
      have hd2 : decide ((j : Int) < (n : Int)) = true := decide_eq_true (by omega)
      have hgk2 : 0 < gk := by omega
      obtain ⟨h1, h3, h5, h6⟩ := HO.out
      obtain ⟨g2, c2, hv2, hg2, _⟩ := owned_some h3 (by omega)
      cases hv2
      obtain ⟨q, hq⟩ : ∃ q, l[j]? = some q := ⟨l[j]'(by rw [HL.out.1]; exact hj), List.getElem?_eq_getElem _⟩
      have HBg : Hid (B ≤ g2) := hg2
      have key : ∀ m u, (qdCells q)[m]? = some u → xs[j * 4 + m]? = some u := fun m u hu => by rw [h5 _ (by omega)]; exact flat_get qd_len l j q m u hq hu
      have x0 := (owned_cells h3 (j * 4 + 0) _ (key 0 _ rfl)).1
      have x1 := (owned_cells h3 (j * 4 + 1) _ (key 1 _ rfl)).1
      have x2 := (owned_cells h3 (j * 4 + 2) _ (key 2 _ rfl)).1
      have x3 := (owned_cells h3 (j * 4 + 3) _ (key 3 _ rfl)).1
      rw [Nat.add_zero] at x0
      obtain ⟨ab, ao, hra, hrc⟩ := HA.out.cells (by rw [HL.out.2]; omega)
      obtain ⟨y0, y1, y2, y3⟩ := hrc j q hq
      have y0 := cell_bl h1.low y0
      have y1 := cell_bl h1.low y1
      have y2 := cell_bl h1.low y2
      have y3 := cell_bl h1.low y3
      have c9 := h1.cell 9 (v := .slice s.r.a s.r.n s.r.c) rfl
      rw [HL.out.2, hra] at c9
      have HX1 : Hid (xs[j * 4 + 1]? = some (.int .i64 q.2.1)) := key 1 _ rfl
      obtain ⟨q0, q1, q2, q3⟩ := q
      simp only at x0 x1 x2 x3 y0 y1 y2 y3
      clear h1 h3 h5 h6 hg2 hrc hra key hq
      go_upto_region 10 with (fail)
      go_quiet (fail)
      have HQ : Hid (Below wr.heap.size wr (wr.drewN nq)) := below_drewN (Below.refl _ _) nq
      generalize wr.drewN nq = wq at *
      clear x0 x1 x2 x3 y0 y1 y2 y3 c9
      have HOq : Hid (Bo w wq #[.int .i64 c.letters, .int .i64 c.planes, .int .i64 c.regs, .int .i64 c.lo, .int .i64 c.hi, .int .i64 c.most, .slice s.t.a s.t.n s.t.c, .slice s.k.a s.k.n s.k.c, .slice s.i.a s.i.n s.i.c, .slice s.r.a s.r.n s.r.c] ∧ wq.ownsRow B 41 4 (.slice (some ⟨g2, 0, none⟩) n cap2) n xs ∧ (∀ k, j * 4 ≤ k → xs[k]? = (qdVals l)[k]?) ∧ B ≤ wq.heap.size) := by
        obtain ⟨h1, h3, h5, h6⟩ := HO.out
        exact ⟨h1.next HQ.out, owned_below h3 HQ.out, h5, Nat.le_trans h6 HQ.out.size⟩
      clear HO HQ
      obtain ⟨y2, f2⟩ := owned_cells HOq.out.2.1 (j * 4 + 1) _ HX1.out
      have HOn : Hid (Bo w (wq.setCell ⟨g2, j * 4 + 1, none⟩ (.int .i64 (-9))) #[.int .i64 c.letters, .int .i64 c.planes, .int .i64 c.regs, .int .i64 c.lo, .int .i64 c.hi, .int .i64 c.most, .slice s.t.a s.t.n s.t.c, .slice s.k.a s.k.n s.k.c, .slice s.i.a s.i.n s.i.c, .slice s.r.a s.r.n s.r.c] ∧ (wq.setCell ⟨g2, j * 4 + 1, none⟩ (.int .i64 (-9))).ownsRow B 41 4 (.slice (some ⟨g2, 0, none⟩) n cap2) n (xs.set (j * 4 + 1) (.int .i64 (-9))) ∧ (∀ k, (j + 1) * 4 ≤ k → (xs.set (j * 4 + 1) (.int .i64 (-9)))[k]? = (qdVals l)[k]?) ∧ B ≤ (wq.setCell ⟨g2, j * 4 + 1, none⟩ (.int .i64 (-9))).heap.size) := by
        obtain ⟨h1, h3, h5, h6⟩ := HOq.out
        have hlt : w.heap.size < g2 := Nat.lt_of_lt_of_le HBs.out HBg.out
        refine ⟨⟨h1.low.setCell (p := ⟨g2, j * 4 + 1, none⟩) (Nat.le_of_lt hlt) _, ?_⟩, owned_set h3 _ _, fun m hm => ?_, ?_⟩
        · rw [Below.heap_setCell _ _ _ _ (by show w.heap.size ≠ g2; omega)]; exact h1.box
        · rw [List.getElem?_set_ne (by omega)]; exact h5 m (by omega)
        · rw [show (wq.setCell ⟨g2, j * 4 + 1, none⟩ (.int .i64 (-9))).heap.size = wq.heap.size from by simp]; exact h6
      clear HOq HX1
      go_wp2
      clear y2 f2
      generalize wq.setCell ⟨g2, j * 4 + 1, none⟩ (.int .i64 (-9)) = wz at *
      go_roundg (gk - 1)
      case rel => exact ⟨j + 1, _, by omega, by go_num, HOn⟩
      case measure => omega

end Go.Proofs.Ytjpeoejielamiaa

namespace Go.Proofs.Ytjpeoejielamiaa
open Go.RowKit

def FoundOk (e : En) : Prop := e.found = false → ∀ k, e.planes k = false
theorem end_found {e : En} (p : Nat) (i j n : Int) : FoundOk (endB e p i j n) := by
  intro hf
  exfalso
  unfold endB at hf
  by_cases h1 : (!e.found || decide (e.score < n)) = true
  · simp only [h1, if_true, and_self] at hf
    exact Bool.noConfusion hf
  · have he : e.found = true := by
      cases h : e.found with
      | true => rfl
      | false => rw [h] at h1; exact absurd rfl h1
    simp only [h1, Bool.false_eq_true, if_false] at hf
    split at hf
    · rw [he] at hf; exact Bool.noConfusion hf
    · rw [he] at hf; exact Bool.noConfusion hf
theorem act_found (c : Cd) (x y : List Int) (i j : Nat) (M : Ms) (q : Qd) (h : FoundOk M.ends) : FoundOk (actB c x y i j M q).ends := by
  unfold actB
  split
  · exact h
  split
  · exact h
  split
  · exact h
  split
  · exact h
  split
  · show FoundOk (if i = 0 ∨ j = 0 then _ else _ : Ms).ends
    split <;> exact h
  split
  · exact h
  split
  · exact h
  show FoundOk (if _ then _ else M : Ms).ends
  split
  · exact end_found _ _ _ _
  · exact h
theorem acts_found (c : Cd) (x y : List Int) (i j : Nat) : ∀ (l : List Qd) (M : Ms), FoundOk M.ends → FoundOk (l.foldl (actB c x y i j) M).ends
  | [], _, h => h
  | q :: l, M, h => acts_found c x y i j l _ (act_found c x y i j M q h)
theorem run_found (c : Cd) (x y : List Int) : FoundOk (runM c x y).ends := by
  rw [runM_cells]
  refine cells_ind c x.length y.length (fun M p => cellM c x y p.1 p.2 M) ms0 (fun _ M => FoundOk M.ends) (fun _ _ => rfl) ?_
  intro pre i j M _ _ _ _ h
  exact acts_found c x y i j c.cell M h
/-- The world, its blocks from B on struck. -/
def cutW (B : Nat) (w : World) : World := { w with heap := w.heap.extract 0 B }
theorem cut_below {B : Nat} {w : World} (hB : B ≤ w.heap.size) : Below (cutW B w).heap.size (cutW B w) w := by
  have hs : (cutW B w).heap.size = B := by show (w.heap.extract 0 B).size = B; simp; omega
  refine ⟨rfl, rfl, rfl, by rw [hs]; exact hB, fun k hk => ?_⟩
  rw [hs] at hk
  show _ = (w.heap.extract 0 B)[k]?
  rw [Array.getElem?_extract]
  simp
  omega
theorem cut_size {B : Nat} {w : World} (hB : B ≤ w.heap.size) : (cutW B w).heap.size = B := by show (w.heap.extract 0 B).size = B; simp; omega
/-- What lies below B may be another: the document's table is read above it, the code and the sequences where they lie. -/
theorem Dt.rebase {w0 w w2 : World} {p : Dp} {c : Cd} {s : Ls} {sx sy se : Sl} {x y : List Int} {M : Ms} {st : Int} (h : Dt w0 w p c s sx sy x y se M st) (hs : w.heap.size ≤ w2.heap.size) (hk : ∀ k, w0.heap.size ≤ k → k < w.heap.size → w2.heap[k]? = w.heap[k]?)
    (hc : CdAt (cutW w0.heap.size w2) c s) (hx : IntsAt (cutW w0.heap.size w2) sx.a sx.n x) (hy : IntsAt (cutW w0.heap.size w2) sy.a sy.n y) (ho : w0.heap.size ≤ p.ob) : Dt (cutW w0.heap.size w2) w2 p c s sx sy x y se M st := by
  have hB : w0.heap.size ≤ w2.heap.size := Nat.le_trans h.low.size hs
  have hz := cut_size hB
  refine ⟨by rw [hk _ h.le.1 (lt_block h.box)]; exact h.box, by rw [hk _ ho (lt_block h.out)]; exact h.out, h.oq, fun q hq => by rw [hk _ (h.le.2.2 q hq) (lt_block (h.row q hq))]; exact h.row q hq, by rw [hk _ h.le.2.1 (lt_block h.reg)]; exact h.reg, ?_, h.inj, h.rg, hc, hx, hy, cut_below hB, by rw [hz]; exact h.le⟩
  rw [hz]
  rcases h.ends with h1 | ⟨h1, eb, h2, h3, h4⟩
  · exact Or.inl h1
  · exact Or.inr ⟨h1, eb, h2, h3, by rw [hk _ h3 (lt_block h4)]; exact h4⟩

end Go.Proofs.Ytjpeoejielamiaa
