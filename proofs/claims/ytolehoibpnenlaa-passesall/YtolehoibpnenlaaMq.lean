/-
  The document's Drop. The document's Prune.
-/
import Derived.Test.YtolehoibpnenlaaMr
import Derived.Test.YtolehoibpnenlaaRcE6
import Derived.Test.YtolehoibpnenlaaMv
import Derived.Test.YtolehoibpnenlaaMs
import Derived.Test.YtolehoibpnenlaaMw
namespace Go.Proofs.Ytolehoibpnenlaa
open Go.RowKit Go.Deep Go.Maps

theorem grown_o (w : World) (ob : Nat) (v0 v1 v2 v3 v4 v5 v6 v7 v8 v9 v10 : Value) : w.grownBy (((((((((((w.setCell ⟨ob, 0, none⟩ v0).setCell ⟨ob, 1, none⟩ v1).setCell ⟨ob, 2, none⟩ v2).setCell ⟨ob, 3, none⟩ v3).setCell ⟨ob, 4, none⟩ v4).setCell ⟨ob, 5, none⟩ v5).setCell ⟨ob, 6, none⟩ v6).setCell ⟨ob, 7, none⟩ v7).setCell ⟨ob, 8, none⟩ v8).setCell ⟨ob, 9, none⟩ v9).setCell ⟨ob, 10, none⟩ v10) (some ob) :=
  grown_trans (grown_trans (grown_trans (grown_trans (grown_trans (grown_trans (grown_trans (grown_trans (grown_trans (grown_trans (grown_set _ _ _ _) (grown_set _ _ _ _)) (grown_set _ _ _ _)) (grown_set _ _ _ _)) (grown_set _ _ _ _)) (grown_set _ _ _ _)) (grown_set _ _ _ _)) (grown_set _ _ _ _)) (grown_set _ _ _ _)) (grown_set _ _ _ _)) (grown_set _ _ _ _)
theorem box11 {w : World} {ob : Nat} {a0 a1 a2 a3 a4 a5 a6 a7 a8 a9 a10 : Value} (h : w.heap[ob]? = some (.cells #[a0, a1, a2, a3, a4, a5, a6, a7, a8, a9, a10] 26 (0, 0))) (v0 v1 v2 v3 v4 v5 v6 v7 v8 v9 v10 : Value) : (((((((((((w.setCell ⟨ob, 0, none⟩ v0).setCell ⟨ob, 1, none⟩ v1).setCell ⟨ob, 2, none⟩ v2).setCell ⟨ob, 3, none⟩ v3).setCell ⟨ob, 4, none⟩ v4).setCell ⟨ob, 5, none⟩ v5).setCell ⟨ob, 6, none⟩ v6).setCell ⟨ob, 7, none⟩ v7).setCell ⟨ob, 8, none⟩ v8).setCell ⟨ob, 9, none⟩ v9).setCell ⟨ob, 10, none⟩ v10).heap[ob]? = some (.cells #[v0, v1, v2, v3, v4, v5, v6, v7, v8, v9, v10] 26 (0, 0)) := by
  rw [heap_set _ (heap_set _ (heap_set _ (heap_set _ (heap_set _ (heap_set _ (heap_set _ (heap_set _ (heap_set _ (heap_set _ (heap_set _ h))))))))))]
  simp only [List.setIfInBounds_toArray, List.set_cons_succ, List.set_cons_zero]
theorem WtO.anew {w : World} {cs : Array Value} {ob : Nat} {x : Rc} {da2 : Option Addr} {dc2 : Nat} {sa2 : Option Addr} {sc2 : Nat} {tt : Option Addr} {tcc : Nat} {sl : List Sr} {L : List St} {wr : World} (h : WtO w cs ob x da2 dc2 sa2 sc2 tt tcc sl L wr) {w2 : World} (hb : Below wr.heap.size wr w2)
    {L2 : List St} {da3 : Option Addr} {dc3 : Nat} {sa3 : Option Addr} {sc3 : Nat} {ta3 : Option Addr} {tc3 : Nat} {sl3 : List Sr} (hcp : CpO w2 wr.heap.size { x with states := L2 } da3 dc3 sa3 sc3 ta3 tc3 sl3) :
    WtO w cs ob x da3 dc3 sa3 sc3 ta3 tc3 sl3 L2 (((((((((((w2.setCell ⟨ob, 0, none⟩ (.int .i64 x.letters)).setCell ⟨ob, 1, none⟩ (.slice da3 x.defs.length dc3)).setCell ⟨ob, 2, none⟩ (.slice sa3 x.subst.length sc3)).setCell ⟨ob, 3, none⟩ (.int .i64 x.beg)).setCell ⟨ob, 4, none⟩ (.int .i64 x.fin)).setCell ⟨ob, 5, none⟩ (.int .i64 x.front)).setCell ⟨ob, 6, none⟩ (.int .i64 x.back)).setCell ⟨ob, 7, none⟩ (.bool x.banded)).setCell ⟨ob, 8, none⟩ (.int .i64 x.lo)).setCell ⟨ob, 9, none⟩ (.int .i64 x.hi)).setCell ⟨ob, 10, none⟩ (.slice ta3 L2.length tc3)) := by
  have h2 := h.next hb
  have hsz := h.d5.sz
  have hg := grown_o w2 ob (.int .i64 x.letters) (.slice da3 x.defs.length dc3) (.slice sa3 x.subst.length sc3) (.int .i64 x.beg) (.int .i64 x.fin) (.int .i64 x.front) (.int .i64 x.back) (.bool x.banded) (.int .i64 x.lo) (.int .i64 x.hi) (.slice ta3 L2.length tc3)
  have hbx : ∀ k, k < w.heap.size + 2 → _ = w2.heap[k]? := fun k hk => hg.block k (by have := hb.size; omega) (fun e => by injection e with e; have := h.ob2; omega)
  have key : ∀ {e : TypeId} {size : Nat} {v : Value} {m : Nat} {xs : List Value}, e ≠ 26 → w2.ownsRow wr.heap.size e size v m xs → _ := fun he hx => owned_base (own_kind hx h2.out he hg) (by omega : w.heap.size ≤ wr.heap.size)
  refine ⟨⟨h2.d5.low.grown hg h2.d5.low.size (fun k hk => by cases hk; have := h.ob2; omega), ?_, ?_⟩, h.ob2, ?_, ⟨key (by decide) hcp.defs, key (by decide) hcp.subst, key (by decide) hcp.states, ⟨hcp.rows.1, fun i r s hi hs => ⟨(hcp.rows.2 i r s hi hs).1, (hcp.rows.2 i r s hi hs).2.1, key (by decide) (hcp.rows.2 i r s hi hs).2.2⟩⟩, hcp.apart⟩⟩
  · rw [hbx _ (by omega)]; exact h2.d5.box
  · rw [hbx _ (by omega)]; exact h2.d5.res
  · have ho := h2.out
    unfold rcCells at ho ⊢
    exact box11 ho _ _ _ _ _ _ _ _ _ _ _
theorem WtO.keep {w : World} {cs : Array Value} {ob : Nat} {x : Rc} {da2 : Option Addr} {dc2 : Nat} {sa2 : Option Addr} {sc2 : Nat} {tt : Option Addr} {tcc : Nat} {sl : List Sr} {L : List St} {wr : World} (h : WtO w cs ob x da2 dc2 sa2 sc2 tt tcc sl L wr) {w2 : World} (hb : Below wr.heap.size wr w2) {base : Nat} {e : TypeId} {size : Nat} {v : Value} {n : Nat} {xs : List Value} (ho : wr.ownsRow base e size v n xs) (he : e ≠ 26) (v0 v1 v2 v3 v4 v5 v6 v7 v8 v9 v10 : Value) : (((((((((((w2.setCell ⟨ob, 0, none⟩ v0).setCell ⟨ob, 1, none⟩ v1).setCell ⟨ob, 2, none⟩ v2).setCell ⟨ob, 3, none⟩ v3).setCell ⟨ob, 4, none⟩ v4).setCell ⟨ob, 5, none⟩ v5).setCell ⟨ob, 6, none⟩ v6).setCell ⟨ob, 7, none⟩ v7).setCell ⟨ob, 8, none⟩ v8).setCell ⟨ob, 9, none⟩ v9).setCell ⟨ob, 10, none⟩ v10).ownsRow base e size v n xs :=
  own_kind (owned_below ho hb) (h.next hb).out he (grown_o w2 ob v0 v1 v2 v3 v4 v5 v6 v7 v8 v9 v10)
theorem rcB_with {x : Rc} (h : rightR x = true) {l : List St} (hl : SOk x.defs.length l) (he : ∀ s ∈ l, s.2.length ≤ 100) : RcB { x with states := l } := by
  have h1 := right_rcB h
  exact ⟨h1.defs, h1.subst, by have := hl.1; show l.length ≤ _; omega, fun s hs => by have := he s hs; omega⟩
/-- While states are taken away. -/
structure DpO (w : World) (cs : Array Value) (ob : Nat) (x : Rc) (l : List St) (wr : World) : Prop where
  wt : ∃ da2 dc2 sa2 sc2 tt tcc sl, WtO w cs ob x da2 dc2 sa2 sc2 tt tcc sl l wr
  ok : SOk x.defs.length l
  few : ∀ s ∈ l, s.2.length ≤ 100
theorem DpO.next {w : World} {cs : Array Value} {ob : Nat} {x : Rc} {l : List St} {wr w2 : World} (h : DpO w cs ob x l wr) (hb : Below wr.heap.size wr w2) : DpO w cs ob x l w2 := by
  obtain ⟨a, b, c, d, e, f, g, hw⟩ := h.wt
  exact ⟨⟨a, b, c, d, e, f, g, hw.next hb⟩, h.ok, h.few⟩

set_option maxRecDepth 20000 in
set_option maxHeartbeats 1500000 in
theorem refDrop_calls (x : Rc) (da : Option Addr) (dn dc : Nat) (sa : Option Addr) (sn sc : Nat) (ta : Option Addr) (tn tc : Nat) (w : World) (h : RcAt w x da dn sa sn ta tn) :
    Calls Try.prog 17 #[.agg (rcCells x da dn dc sa sn sc ta tn tc)] w fun e w' => UPost (okX (rightR x) (dropB x)) (okE (rightR x)) w e w' := by
  have hres : Try.f17.results = #[.cell 2 26, .tmp 3] := by kernel_rfl
  have HB0 : Hid (D5 w (rcCells x da dn dc sa sn sc ta tn tc) ((w.alloc (.cells (rcCells x da dn dc sa sn sc ta tn tc) 26)).alloc (.cells #[.int .i64 0, .slice none 0 0, .slice none 0 0, .int .i64 0, .int .i64 0, .int .i64 0, .int .i64 0, .bool false, .int .i64 0, .int .i64 0, .slice none 0 0] 26))) := D5.start _ _
  have HC : Hid (∀ W, Below w.heap.size w W → Calls Try.prog 24 #[.agg (rcCells x da dn dc sa sn sc ta tn tc)] W fun e w' => e = .returned (.bool (rightR x)) ∧ Below W.heap.size W w') := fun W hW => refright_calls x da dn dc sa sn sc ta tn tc W (h.below hW)
  have HCp : Hid (∀ W, rightR x = true → Below w.heap.size w W → Calls Try.prog 27 #[.agg (rcCells x da dn dc sa sn sc ta tn tc)] W fun e w' => ∃ da2 dc2 sa2 sc2 ta2 tc2 sl, e = .returned (.agg (rcCells x da2 x.defs.length dc2 sa2 x.subst.length sc2 ta2 x.states.length tc2)) ∧ Below W.heap.size W w' ∧ CpO w' W.heap.size x da2 dc2 sa2 sc2 ta2 tc2 sl) := fun W hr hW => copyR_calls x da dn dc sa sn sc ta tn tc W (h.below hW) (right_rcB hr)
  have HCm : Hid (∀ W, rightR x = true → Below w.heap.size w W → Calls Try.prog 31 #[.agg (rcCells x da dn dc sa sn sc ta tn tc)] W fun e w' => RowPost 4 1 tn (blRow (foundB x)) W e w') := fun W hr hW => refcome_calls x da dn dc sa sn sc ta tn tc W (h.below hW) hr
  have HL : Hid (x.defs.length = dn ∧ x.subst.length = sn ∧ x.states.length = tn ∧ ∀ d ∈ x.defs, InR d.num) := ⟨h.defs.length, h.subst.length, h.states.length, h.defs.fits⟩
  rw [h.defs.length, h.subst.length, h.states.length] at HCp
  obtain ⟨ok, hok⟩ : ∃ ok, rightR x = ok := ⟨_, rfl⟩
  have HOK : Hid (rightR x = ok) := hok
  obtain ⟨X, hX⟩ : ∃ X, dropB x = X := ⟨_, rfl⟩
  have HXc : Hid (dropB x = X) := hX
  rw [hok] at HC ⊢
  rw [hX]
  clear hok hX h
  unfold rcCells at HB0 HC HCp HCm
  unfold rcCells
  go_enter Try.func17, Try.ntmps17
  go_wp2_with fail
  refine (HC.out _ HB0.out.low).mono ?_
  rintro e w1 ⟨rfl, hb1⟩
  have HB1 : Hid (D5 w #[.int .i64 x.letters, .slice da dn dc, .slice sa sn sc, .int .i64 x.beg, .int .i64 x.fin, .int .i64 x.front, .int .i64 x.back, .bool x.banded, .int .i64 x.lo, .int .i64 x.hi, .slice ta tn tc] w1) := HB0.out.next hb1 (by simp)
  clear hb1 HB0 HC
  cases ok with
  | false =>
    have r0 : w1.cell? ⟨w.heap.size + 1, 0, none⟩ = some (.int .i64 0) := blk HB1.out.res rfl
    have r1 : w1.cell? ⟨w.heap.size + 1, 1, none⟩ = some (.slice none 0 0) := blk HB1.out.res rfl
    have r2 : w1.cell? ⟨w.heap.size + 1, 2, none⟩ = some (.slice none 0 0) := blk HB1.out.res rfl
    have r3 : w1.cell? ⟨w.heap.size + 1, 3, none⟩ = some (.int .i64 0) := blk HB1.out.res rfl
    have r4 : w1.cell? ⟨w.heap.size + 1, 4, none⟩ = some (.int .i64 0) := blk HB1.out.res rfl
    have r5 : w1.cell? ⟨w.heap.size + 1, 5, none⟩ = some (.int .i64 0) := blk HB1.out.res rfl
    have r6 : w1.cell? ⟨w.heap.size + 1, 6, none⟩ = some (.int .i64 0) := blk HB1.out.res rfl
    have r7 : w1.cell? ⟨w.heap.size + 1, 7, none⟩ = some (.bool false) := blk HB1.out.res rfl
    have r8 : w1.cell? ⟨w.heap.size + 1, 8, none⟩ = some (.int .i64 0) := blk HB1.out.res rfl
    have r9 : w1.cell? ⟨w.heap.size + 1, 9, none⟩ = some (.int .i64 0) := blk HB1.out.res rfl
    have r10 : w1.cell? ⟨w.heap.size + 1, 10, none⟩ = some (.slice none 0 0) := blk HB1.out.res rfl
    have rf : ∀ i, w1.frozen? ⟨w.heap.size + 1, i, none⟩ = false := fun i => frozen_of_row w1 _ i _ _ HB1.out.res
    go_wp2
    refine bodyPost_ret (v := .tuple #[.agg #[.int .i64 0, .slice none 0 0, .slice none 0 0, .int .i64 0, .int .i64 0, .int .i64 0, .int .i64 0, .bool false, .int .i64 0, .int .i64 0, .slice none 0 0], .int .i64 120]) ?_ rfl ?_
    · simp only [results, hres]
      go_simp
    · exact ⟨none, 0, none, 0, none, 0, rfl, below_r HB1.out.low _ _ _ _ _ _ _ _ _ _ _, zero_rcO _ _⟩
  | true =>
    have htn : tn ≤ 9 := by rw [← HL.out.2.2.1]; exact (right_states HOK.out).1
    have c0 : w1.cell? ⟨w.heap.size, 0, none⟩ = some (.int .i64 x.letters) := blk HB1.out.box rfl
    have c1 : w1.cell? ⟨w.heap.size, 1, none⟩ = some (.slice da dn dc) := blk HB1.out.box rfl
    have c2 : w1.cell? ⟨w.heap.size, 2, none⟩ = some (.slice sa sn sc) := blk HB1.out.box rfl
    have c3 : w1.cell? ⟨w.heap.size, 3, none⟩ = some (.int .i64 x.beg) := blk HB1.out.box rfl
    have c4 : w1.cell? ⟨w.heap.size, 4, none⟩ = some (.int .i64 x.fin) := blk HB1.out.box rfl
    have c5 : w1.cell? ⟨w.heap.size, 5, none⟩ = some (.int .i64 x.front) := blk HB1.out.box rfl
    have c6 : w1.cell? ⟨w.heap.size, 6, none⟩ = some (.int .i64 x.back) := blk HB1.out.box rfl
    have c7 : w1.cell? ⟨w.heap.size, 7, none⟩ = some (.bool x.banded) := blk HB1.out.box rfl
    have c8 : w1.cell? ⟨w.heap.size, 8, none⟩ = some (.int .i64 x.lo) := blk HB1.out.box rfl
    have c9 : w1.cell? ⟨w.heap.size, 9, none⟩ = some (.int .i64 x.hi) := blk HB1.out.box rfl
    have c10 : w1.cell? ⟨w.heap.size, 10, none⟩ = some (.slice ta tn tc) := blk HB1.out.box rfl
    go_wp2_with fail
    refine (HCp.out w1 HOK.out HB1.out.low).mono ?_
    rintro e w2 ⟨oda, odc, osa, osc, ota, otc, osl, rfl, hb2, hcp⟩
    go_upto_region 5 with (fail)
    obtain ⟨ob, hob⟩ : ∃ ob, w2.heap.size = ob := ⟨_, rfl⟩
    obtain ⟨w3, hw3⟩ : ∃ w3, w3 = w2.alloc (.cells #[.int .i64 x.letters, .slice oda dn odc, .slice osa sn osc, .int .i64 x.beg, .int .i64 x.fin, .int .i64 x.front, .int .i64 x.back, .bool x.banded, .int .i64 x.lo, .int .i64 x.hi, .slice ota tn otc] 26) := ⟨_, rfl⟩
    rw [← hw3, hob]
    have HO : Hid (DpO w #[.int .i64 x.letters, .slice da dn dc, .slice sa sn sc, .int .i64 x.beg, .int .i64 x.fin, .int .i64 x.front, .int .i64 x.back, .bool x.banded, .int .i64 x.lo, .int .i64 x.hi, .slice ta tn tc] ob x x.states w3) := by
      have h0 : Below w2.heap.size w2 w3 := by rw [hw3]; exact (Below.refl _ _).alloc (Nat.le_refl _) _
      have hd := HB1.out.next hb2 HB1.out.sz
      have hz : w.heap.size ≤ w1.heap.size := HB1.out.low.size
      have hc2 := hcp.below h0
      refine ⟨⟨oda, odc, osa, osc, ota, otc, osl, hd.next h0 hd.sz, by rw [← hob]; exact hd.sz, ?_, ⟨owned_base hc2.defs hz, owned_base hc2.subst hz, owned_base hc2.states hz, ⟨hc2.rows.1, fun i r s hi hs => ⟨(hc2.rows.2 i r s hi hs).1, (hc2.rows.2 i r s hi hs).2.1, owned_base (hc2.rows.2 i r s hi hs).2.2 hz⟩⟩, hc2.apart⟩⟩, right_sok HOK.out, right_edges HOK.out⟩
      rw [hw3, ← hob, HL.out.1, HL.out.2.1, HL.out.2.2.1]
      exact heap_alloc_new w2 _
    clear hb2 hcp hw3 hob HB1 HCp
    clear c0 c1 c2 c3 c4 c5 c6 c7 c8 c9 c10
    have HD5 : Hid (D5 w #[.int .i64 x.letters, .slice da dn dc, .slice sa sn sc, .int .i64 x.beg, .int .i64 x.fin, .int .i64 x.front, .int .i64 x.back, .bool x.banded, .int .i64 x.lo, .int .i64 x.hi, .slice ta tn tc] w3) := by
      obtain ⟨a, b, c, d, e, f, g, hw⟩ := HO.out.wt
      exact hw.d5
    have c0 : w3.cell? ⟨w.heap.size, 0, none⟩ = some (.int .i64 x.letters) := blk HD5.out.box rfl
    have c1 : w3.cell? ⟨w.heap.size, 1, none⟩ = some (.slice da dn dc) := blk HD5.out.box rfl
    have c2 : w3.cell? ⟨w.heap.size, 2, none⟩ = some (.slice sa sn sc) := blk HD5.out.box rfl
    have c3 : w3.cell? ⟨w.heap.size, 3, none⟩ = some (.int .i64 x.beg) := blk HD5.out.box rfl
    have c4 : w3.cell? ⟨w.heap.size, 4, none⟩ = some (.int .i64 x.fin) := blk HD5.out.box rfl
    have c5 : w3.cell? ⟨w.heap.size, 5, none⟩ = some (.int .i64 x.front) := blk HD5.out.box rfl
    have c6 : w3.cell? ⟨w.heap.size, 6, none⟩ = some (.int .i64 x.back) := blk HD5.out.box rfl
    have c7 : w3.cell? ⟨w.heap.size, 7, none⟩ = some (.bool x.banded) := blk HD5.out.box rfl
    have c8 : w3.cell? ⟨w.heap.size, 8, none⟩ = some (.int .i64 x.lo) := blk HD5.out.box rfl
    have c9 : w3.cell? ⟨w.heap.size, 9, none⟩ = some (.int .i64 x.hi) := blk HD5.out.box rfl
    have c10 : w3.cell? ⟨w.heap.size, 10, none⟩ = some (.slice ta tn tc) := blk HD5.out.box rfl
    go_wp2_with fail
    refine (HCm.out w3 HOK.out HD5.out.low).mono ?_
    rintro e w4 ⟨fo, fc, rfl, ho4, hb4⟩
    have HQ0 : Hid (∃ l, dropG (foundB x) tn l = X.states ∧ tn ≤ l.length ∧ DpO w #[.int .i64 x.letters, .slice da dn dc, .slice sa sn sc, .int .i64 x.beg, .int .i64 x.fin, .int .i64 x.front, .int .i64 x.back, .bool x.banded, .int .i64 x.lo, .int .i64 x.hi, .slice ta tn tc] ob x l w4) := ⟨x.states, by rw [← HXc.out, dropB, HL.out.2.2.1], by rw [HL.out.2.2.1]; exact Nat.le_refl _, HO.out.next hb4⟩
    have HRow : Hid (w4.ownsRow w3.heap.size 4 1 (.slice fo tn fc) tn (blRow (foundB x))) := ho4
    clear ho4 hb4 HCm HD5 HO
    clear c0 c1 c2 c3 c4 c5 c6 c7 c8 c9 c10
    go_wp2
    go_loopg [7] tn (fun q sv wr => q ≤ tn ∧ sv = .int .i64 ((q : Int) - 1) ∧ Hid ((∃ l, dropG (foundB x) q l = X.states ∧ q ≤ l.length ∧ DpO w #[.int .i64 x.letters, .slice da dn dc, .slice sa sn sc, .int .i64 x.beg, .int .i64 x.fin, .int .i64 x.front, .int .i64 x.back, .bool x.banded, .int .i64 x.lo, .int .i64 x.hi, .slice ta tn tc] ob x l wr) ∧ wr.ownsRow w3.heap.size 4 1 (.slice fo tn fc) tn (blRow (foundB x))))
    case atStart => exact ⟨Nat.le_refl _, rfl, HQ0.out, HRow.out⟩
    case round =>
      clear HQ0 HRow
      obtain ⟨hqn, rfl, HQ⟩ := hrel
      by_cases hq : 0 < gk
      · obtain ⟨j, hj⟩ : ∃ j, gk = j + 1 := ⟨gk - 1, by omega⟩
        subst hj
        have ej : ((j + 1 : Nat) : Int) - 1 = (j : Int) := by omega
        rw [ej]
        clear ej
        obtain ⟨⟨l, hdl, hjl, hdw⟩, hrow⟩ := HQ.out
        obtain ⟨fg, hfg⟩ : ∃ fg, fo = some ⟨fg, 0, none⟩ := by
          obtain ⟨fg, cap, hv, _⟩ := owned_some hrow (by omega)
          injection hv with e1
          exact ⟨fg, e1⟩
        subst hfg
        have cf := (owned_cells hrow j _ (blRow_get (foundB x) (by rw [found_len, HL.out.2.2.1]; omega))).1
        have hjn : (j : Int) < (tn : Int) := by omega
        have hj0 : decide ((0 : Int) ≤ (j : Int)) = true := by simp
        cases hb : (foundB x).getD j false with
        | true =>
          have HN : Hid ((∃ l, dropG (foundB x) j l = X.states ∧ j ≤ l.length ∧ DpO w #[.int .i64 x.letters, .slice da dn dc, .slice sa sn sc, .int .i64 x.beg, .int .i64 x.fin, .int .i64 x.front, .int .i64 x.back, .bool x.banded, .int .i64 x.lo, .int .i64 x.hi, .slice ta tn tc] ob x l wr) ∧ wr.ownsRow w3.heap.size 4 1 (.slice (some ⟨fg, 0, none⟩) tn fc) tn (blRow (foundB x))) := by
            refine ⟨⟨l, ?_, by omega, hdw⟩, hrow⟩
            rw [dropG, hb, if_pos rfl] at hdl
            exact hdl
          rw [hb] at cf
          clear hb hdl hjl hdw HQ hrow
          go_wp2
          go_roundg j
          case measure => omega
          case rel => exact ⟨by omega, rfl, HN.out⟩
        | false =>
          rw [dropG, hb, if_neg (by decide)] at hdl
          rw [hb] at cf
          obtain ⟨da4, dc4, sa4, sc4, tt4, tc4, sl4, hwt⟩ := hdw.wt
          obtain ⟨m4, hm4⟩ : ∃ m4, l.length = m4 := ⟨_, rfl⟩
          have HWt : Hid (Calls Try.prog 30 #[.agg #[.int .i64 x.letters, .slice da4 dn dc4, .slice sa4 sn sc4, .int .i64 x.beg, .int .i64 x.fin, .int .i64 x.front, .int .i64 x.back, .bool x.banded, .int .i64 x.lo, .int .i64 x.hi, .slice tt4 m4 tc4], .int .i64 (j : Int)] wr fun e w' => ∃ da2 dc2 sa2 sc2 ta2 tc2 sl, e = .returned (.agg (rcCells { x with states := takeB j l } da2 dn dc2 sa2 sn sc2 ta2 (takeB j l).length tc2)) ∧ Below wr.heap.size wr w' ∧ CpO w' wr.heap.size { x with states := takeB j l } da2 dc2 sa2 sc2 ta2 tc2 sl) := by
            have hrb := rcB_with HOK.out hdw.ok hdw.few
            have hat := hwt.cp.at HL.out.2.2.2 hrb
            have := refwo_calls { x with states := l } da4 x.defs.length dc4 sa4 x.subst.length sc4 tt4 l.length tc4 wr hat hrb hdw.ok hdw.few j
            simp only [rcCells] at this
            rw [HL.out.1, HL.out.2.1, hm4] at this
            exact this
          have ho := hwt.out
          unfold rcCells at ho
          simp only [HL.out.1, HL.out.2.1, hm4] at ho
          have p0 : wr.cell? ⟨ob, 0, none⟩ = some (.int .i64 x.letters) := blk ho rfl
          have p1 : wr.cell? ⟨ob, 1, none⟩ = some (.slice da4 dn dc4) := blk ho rfl
          have p2 : wr.cell? ⟨ob, 2, none⟩ = some (.slice sa4 sn sc4) := blk ho rfl
          have p3 : wr.cell? ⟨ob, 3, none⟩ = some (.int .i64 x.beg) := blk ho rfl
          have p4 : wr.cell? ⟨ob, 4, none⟩ = some (.int .i64 x.fin) := blk ho rfl
          have p5 : wr.cell? ⟨ob, 5, none⟩ = some (.int .i64 x.front) := blk ho rfl
          have p6 : wr.cell? ⟨ob, 6, none⟩ = some (.int .i64 x.back) := blk ho rfl
          have p7 : wr.cell? ⟨ob, 7, none⟩ = some (.bool x.banded) := blk ho rfl
          have p8 : wr.cell? ⟨ob, 8, none⟩ = some (.int .i64 x.lo) := blk ho rfl
          have p9 : wr.cell? ⟨ob, 9, none⟩ = some (.int .i64 x.hi) := blk ho rfl
          have p10 : wr.cell? ⟨ob, 10, none⟩ = some (.slice tt4 m4 tc4) := blk ho rfl
          have HD : Hid (dropG (foundB x) j (takeB j l) = X.states ∧ j + 1 ≤ l.length ∧ WtO w #[.int .i64 x.letters, .slice da dn dc, .slice sa sn sc, .int .i64 x.beg, .int .i64 x.fin, .int .i64 x.front, .int .i64 x.back, .bool x.banded, .int .i64 x.lo, .int .i64 x.hi, .slice ta tn tc] ob x da4 dc4 sa4 sc4 tt4 tc4 sl4 l wr ∧ wr.ownsRow w3.heap.size 4 1 (.slice (some ⟨fg, 0, none⟩) tn fc) tn (blRow (foundB x)) ∧ SOk x.defs.length l ∧ ∀ s ∈ l, s.2.length ≤ 100) := ⟨hdl, hjl, hwt, hrow, hdw.ok, hdw.few⟩
          have HM4 : Hid (l.length = m4) := hm4
          clear hb hdl hjl hdw hwt hrow HQ ho hm4
          go_wp2_with fail
          refine HWt.out.mono ?_
          rintro e w5 ⟨da5, dc5, sa5, sc5, tt5, tc5, sl5, rfl, hb5, hcp5⟩
          have HN : Hid ((∃ l', dropG (foundB x) j l' = X.states ∧ j ≤ l'.length ∧ DpO w #[.int .i64 x.letters, .slice da dn dc, .slice sa sn sc, .int .i64 x.beg, .int .i64 x.fin, .int .i64 x.front, .int .i64 x.back, .bool x.banded, .int .i64 x.lo, .int .i64 x.hi, .slice ta tn tc] ob x l' (((((((((((w5.setCell ⟨ob, 0, none⟩ (.int .i64 x.letters)).setCell ⟨ob, 1, none⟩ (.slice da5 dn dc5)).setCell ⟨ob, 2, none⟩ (.slice sa5 sn sc5)).setCell ⟨ob, 3, none⟩ (.int .i64 x.beg)).setCell ⟨ob, 4, none⟩ (.int .i64 x.fin)).setCell ⟨ob, 5, none⟩ (.int .i64 x.front)).setCell ⟨ob, 6, none⟩ (.int .i64 x.back)).setCell ⟨ob, 7, none⟩ (.bool x.banded)).setCell ⟨ob, 8, none⟩ (.int .i64 x.lo)).setCell ⟨ob, 9, none⟩ (.int .i64 x.hi)).setCell ⟨ob, 10, none⟩ (.slice tt5 (takeB j l).length tc5))) ∧ (((((((((((w5.setCell ⟨ob, 0, none⟩ (.int .i64 x.letters)).setCell ⟨ob, 1, none⟩ (.slice da5 dn dc5)).setCell ⟨ob, 2, none⟩ (.slice sa5 sn sc5)).setCell ⟨ob, 3, none⟩ (.int .i64 x.beg)).setCell ⟨ob, 4, none⟩ (.int .i64 x.fin)).setCell ⟨ob, 5, none⟩ (.int .i64 x.front)).setCell ⟨ob, 6, none⟩ (.int .i64 x.back)).setCell ⟨ob, 7, none⟩ (.bool x.banded)).setCell ⟨ob, 8, none⟩ (.int .i64 x.lo)).setCell ⟨ob, 9, none⟩ (.int .i64 x.hi)).setCell ⟨ob, 10, none⟩ (.slice tt5 (takeB j l).length tc5)).ownsRow w3.heap.size 4 1 (.slice (some ⟨fg, 0, none⟩) tn fc) tn (blRow (foundB x))) := by
            obtain ⟨h1, h2, h3, h4, h5, h6⟩ := HD.out
            have h7 := h3.anew hb5 hcp5
            rw [HL.out.1, HL.out.2.1] at h7
            refine ⟨⟨takeB j l, h1, by rw [takeB_len j l (by omega)]; omega, ⟨_, _, _, _, _, _, _, h7⟩, takeB_ok h5 (by omega), takeB_edges j l 100 h6⟩, ?_⟩
            exact h3.keep hb5 h4 (by decide) _ _ _ _ _ _ _ _ _ _ _
          have hob5 : w5.heap[ob]? = some (.cells #[.int .i64 x.letters, .slice da4 dn dc4, .slice sa4 sn sc4, .int .i64 x.beg, .int .i64 x.fin, .int .i64 x.front, .int .i64 x.back, .bool x.banded, .int .i64 x.lo, .int .i64 x.hi, .slice tt4 m4 tc4] 26 (0, 0)) := by
            have h7 := (HD.out.2.2.1.next hb5).out
            unfold rcCells at h7
            simp only [HL.out.1, HL.out.2.1, HM4.out] at h7
            exact h7
          have q0 : w5.cell? ⟨ob, 0, none⟩ = some (.int .i64 x.letters) := blk hob5 rfl
          have q1 : w5.cell? ⟨ob, 1, none⟩ = some (.slice da4 dn dc4) := blk hob5 rfl
          have q2 : w5.cell? ⟨ob, 2, none⟩ = some (.slice sa4 sn sc4) := blk hob5 rfl
          have q3 : w5.cell? ⟨ob, 3, none⟩ = some (.int .i64 x.beg) := blk hob5 rfl
          have q4 : w5.cell? ⟨ob, 4, none⟩ = some (.int .i64 x.fin) := blk hob5 rfl
          have q5 : w5.cell? ⟨ob, 5, none⟩ = some (.int .i64 x.front) := blk hob5 rfl
          have q6 : w5.cell? ⟨ob, 6, none⟩ = some (.int .i64 x.back) := blk hob5 rfl
          have q7 : w5.cell? ⟨ob, 7, none⟩ = some (.bool x.banded) := blk hob5 rfl
          have q8 : w5.cell? ⟨ob, 8, none⟩ = some (.int .i64 x.lo) := blk hob5 rfl
          have q9 : w5.cell? ⟨ob, 9, none⟩ = some (.int .i64 x.hi) := blk hob5 rfl
          have q10 : w5.cell? ⟨ob, 10, none⟩ = some (.slice tt4 m4 tc4) := blk hob5 rfl
          have pf : ∀ i, w5.frozen? ⟨ob, i, none⟩ = false := fun i => frozen_of_row w5 _ i _ _ hob5
          unfold rcCells
          clear hob5 hb5 hcp5 HD HWt cf p0 p1 p2 p3 p4 p5 p6 p7 p8 p9 p10
          go_wp2
          go_roundg j
          case measure => omega
          case rel => exact ⟨by omega, rfl, HN.out⟩
      · obtain rfl : gk = 0 := by omega
        obtain ⟨⟨l, hdl, _, hdw⟩, _⟩ := HQ.out
        obtain ⟨da4, dc4, sa4, sc4, tt4, tc4, sl4, hwt⟩ := hdw.wt
        obtain ⟨m4, hm4⟩ : ∃ m4, l.length = m4 := ⟨_, rfl⟩
        have ho := hwt.out
        unfold rcCells at ho
        simp only [HL.out.1, HL.out.2.1, hm4] at ho
        have p0 : wr.cell? ⟨ob, 0, none⟩ = some (.int .i64 x.letters) := blk ho rfl
        have p1 : wr.cell? ⟨ob, 1, none⟩ = some (.slice da4 dn dc4) := blk ho rfl
        have p2 : wr.cell? ⟨ob, 2, none⟩ = some (.slice sa4 sn sc4) := blk ho rfl
        have p3 : wr.cell? ⟨ob, 3, none⟩ = some (.int .i64 x.beg) := blk ho rfl
        have p4 : wr.cell? ⟨ob, 4, none⟩ = some (.int .i64 x.fin) := blk ho rfl
        have p5 : wr.cell? ⟨ob, 5, none⟩ = some (.int .i64 x.front) := blk ho rfl
        have p6 : wr.cell? ⟨ob, 6, none⟩ = some (.int .i64 x.back) := blk ho rfl
        have p7 : wr.cell? ⟨ob, 7, none⟩ = some (.bool x.banded) := blk ho rfl
        have p8 : wr.cell? ⟨ob, 8, none⟩ = some (.int .i64 x.lo) := blk ho rfl
        have p9 : wr.cell? ⟨ob, 9, none⟩ = some (.int .i64 x.hi) := blk ho rfl
        have p10 : wr.cell? ⟨ob, 10, none⟩ = some (.slice tt4 m4 tc4) := blk ho rfl
        have r0 : wr.cell? ⟨w.heap.size + 1, 0, none⟩ = some (.int .i64 0) := blk hwt.d5.res rfl
        have r1 : wr.cell? ⟨w.heap.size + 1, 1, none⟩ = some (.slice none 0 0) := blk hwt.d5.res rfl
        have r2 : wr.cell? ⟨w.heap.size + 1, 2, none⟩ = some (.slice none 0 0) := blk hwt.d5.res rfl
        have r3 : wr.cell? ⟨w.heap.size + 1, 3, none⟩ = some (.int .i64 0) := blk hwt.d5.res rfl
        have r4 : wr.cell? ⟨w.heap.size + 1, 4, none⟩ = some (.int .i64 0) := blk hwt.d5.res rfl
        have r5 : wr.cell? ⟨w.heap.size + 1, 5, none⟩ = some (.int .i64 0) := blk hwt.d5.res rfl
        have r6 : wr.cell? ⟨w.heap.size + 1, 6, none⟩ = some (.int .i64 0) := blk hwt.d5.res rfl
        have r7 : wr.cell? ⟨w.heap.size + 1, 7, none⟩ = some (.bool false) := blk hwt.d5.res rfl
        have r8 : wr.cell? ⟨w.heap.size + 1, 8, none⟩ = some (.int .i64 0) := blk hwt.d5.res rfl
        have r9 : wr.cell? ⟨w.heap.size + 1, 9, none⟩ = some (.int .i64 0) := blk hwt.d5.res rfl
        have r10 : wr.cell? ⟨w.heap.size + 1, 10, none⟩ = some (.slice none 0 0) := blk hwt.d5.res rfl
        have rf : ∀ i, wr.frozen? ⟨w.heap.size + 1, i, none⟩ = false := fun i => frozen_of_row wr _ i _ _ hwt.d5.res
        have HE : Hid (X = { x with states := l } ∧ l.length = m4 ∧ D5 w #[.int .i64 x.letters, .slice da dn dc, .slice sa sn sc, .int .i64 x.beg, .int .i64 x.fin, .int .i64 x.front, .int .i64 x.back, .bool x.banded, .int .i64 x.lo, .int .i64 x.hi, .slice ta tn tc] wr ∧ RcO wr w.heap.size { x with states := l } da4 dc4 sa4 sc4 tt4 tc4) := by
          refine ⟨?_, hm4, hwt.d5, hwt.cp.rcO hdw.few⟩
          have h1 : l = X.states := hdl
          rw [h1, ← HXc.out]
          rfl
        clear HQ hdl hdw hwt ho hm4
        go_wp2
        refine bodyPost_ret (v := .tuple #[.agg #[.int .i64 x.letters, .slice da4 dn dc4, .slice sa4 sn sc4, .int .i64 x.beg, .int .i64 x.fin, .int .i64 x.front, .int .i64 x.back, .bool x.banded, .int .i64 x.lo, .int .i64 x.hi, .slice tt4 m4 tc4], .int .i64 0]) ?_ rfl ?_
        · simp only [results, hres]
          go_simp
        · obtain ⟨h1, h2, h3, h4⟩ := HE.out
          refine ⟨da4, dc4, sa4, sc4, tt4, tc4, ?_, below_r h3.low _ _ _ _ _ _ _ _ _ _ _, ?_⟩
          · show Ending.returned _ = Ending.returned (.tuple #[.agg (rcCells X da4 X.defs.length dc4 sa4 X.subst.length sc4 tt4 X.states.length tc4), .int .i64 0])
            rw [h1]
            simp only [rcCells, HL.out.1, HL.out.2.1, h2]
          · show RcO _ w.heap.size X da4 dc4 sa4 sc4 tt4 tc4
            rw [h1]
            exact h4.by h3.res (grown_r _ _ _ _ _ _ _ _ _ _ _)
end Go.Proofs.Ytolehoibpnenlaa
namespace Go.Proofs.Ytolehoibpnenlaa
open Go.RowKit Go.Deep Go.Maps

set_option maxRecDepth 20000 in
set_option maxHeartbeats 2000000 in
theorem refPrune_calls (x : Rc) (da : Option Addr) (dn dc : Nat) (sa : Option Addr) (sn sc : Nat) (ta : Option Addr) (tn tc : Nat) (w : World) (h : RcAt w x da dn sa sn ta tn) :
    Calls Try.prog 15 #[.agg (rcCells x da dn dc sa sn sc ta tn tc)] w fun e w' => UPost (okX (rightR x) (pruneB x (valsB x.defs).1)) (okE (rightR x)) w e w' := by
  have hres : Try.f15.results = #[.cell 2 26, .tmp 3] := by kernel_rfl
  have HB0 : Hid (D5 w (rcCells x da dn dc sa sn sc ta tn tc) ((w.alloc (.cells (rcCells x da dn dc sa sn sc ta tn tc) 26)).alloc (.cells #[.int .i64 0, .slice none 0 0, .slice none 0 0, .int .i64 0, .int .i64 0, .int .i64 0, .int .i64 0, .bool false, .int .i64 0, .int .i64 0, .slice none 0 0] 26))) := D5.start _ _
  have HC : Hid (∀ W, Below w.heap.size w W → Calls Try.prog 24 #[.agg (rcCells x da dn dc sa sn sc ta tn tc)] W fun e w' => e = .returned (.bool (rightR x)) ∧ Below W.heap.size W w') := fun W hW => refright_calls x da dn dc sa sn sc ta tn tc W (h.below hW)
  have HCp : Hid (∀ W, rightR x = true → Below w.heap.size w W → Calls Try.prog 27 #[.agg (rcCells x da dn dc sa sn sc ta tn tc)] W fun e w' => ∃ da2 dc2 sa2 sc2 ta2 tc2 sl, e = .returned (.agg (rcCells x da2 x.defs.length dc2 sa2 x.subst.length sc2 ta2 x.states.length tc2)) ∧ Below W.heap.size W w' ∧ CpO w' W.heap.size x da2 dc2 sa2 sc2 ta2 tc2 sl) := fun W hr hW => copyR_calls x da dn dc sa sn sc ta tn tc W (h.below hW) (right_rcB hr)
  have HVl : Hid (∀ W, Below w.heap.size w W → Calls Try.prog 25 #[.slice da dn dc] W fun e w' => ValPost (valsB x.defs) W e w') := fun W hW => refvalues_calls x.defs da dn dc W (h.defs.below hW)
  have HL : Hid (x.defs.length = dn ∧ x.subst.length = sn ∧ x.states.length = tn ∧ ∀ d ∈ x.defs, InR d.num) := ⟨h.defs.length, h.subst.length, h.states.length, h.defs.fits⟩
  rw [h.defs.length, h.subst.length, h.states.length] at HCp
  obtain ⟨ok, hok⟩ : ∃ ok, rightR x = ok := ⟨_, rfl⟩
  have HOK : Hid (rightR x = ok) := hok
  obtain ⟨vs, hvs⟩ : ∃ vs, (valsB x.defs).1 = vs := ⟨_, rfl⟩
  obtain ⟨er, her⟩ : ∃ er, (valsB x.defs).2 = er := ⟨_, rfl⟩
  obtain ⟨X, hX⟩ : ∃ X, pruneB x vs = X := ⟨_, rfl⟩
  have HXc : Hid (pruneB x vs = X) := hX
  have HVs : Hid ((valsB x.defs).1 = vs ∧ ∀ v ∈ vs, -144115188075855872 ≤ v ∧ v ≤ 144115188075855872) := ⟨hvs, fun v hm => by
    have h1 := valsB_in x.defs v (by rw [hvs]; exact hm)
    unfold maxV at h1
    exact h1⟩
  have HVl2 : Hid (∀ W, Below w.heap.size w W → Calls Try.prog 25 #[.slice da dn dc] W fun e w' => ∃ ao cap, e = .returned (.tuple #[.slice ao vs.length cap, .int .i64 er]) ∧ w'.ownsRow W.heap.size 3 1 (.slice ao vs.length cap) vs.length (itRow vs) ∧ Below W.heap.size W w') := fun W hW => by
    have := HVl.out W hW
    unfold ValPost at this
    rw [hvs, her] at this
    exact this
  rw [hok] at HC ⊢
  rw [hvs, hX]
  clear hok hX h hvs her HVl
  obtain ⟨vn, hvn⟩ : ∃ vn, vs.length = vn := ⟨_, rfl⟩
  rw [hvn] at HVl2
  have HVn : Hid (vs.length = vn) := hvn
  clear hvn
  unfold rcCells at HB0 HC HCp
  unfold rcCells
  go_enter Try.func15, Try.ntmps15
  go_wp2_with fail
  refine (HC.out _ HB0.out.low).mono ?_
  rintro e w1 ⟨rfl, hb1⟩
  have HB1 : Hid (D5 w #[.int .i64 x.letters, .slice da dn dc, .slice sa sn sc, .int .i64 x.beg, .int .i64 x.fin, .int .i64 x.front, .int .i64 x.back, .bool x.banded, .int .i64 x.lo, .int .i64 x.hi, .slice ta tn tc] w1) := HB0.out.next hb1 (by simp)
  clear hb1 HB0 HC
  cases ok with
  | false =>
    have r0 : w1.cell? ⟨w.heap.size + 1, 0, none⟩ = some (.int .i64 0) := blk HB1.out.res rfl
    have r1 : w1.cell? ⟨w.heap.size + 1, 1, none⟩ = some (.slice none 0 0) := blk HB1.out.res rfl
    have r2 : w1.cell? ⟨w.heap.size + 1, 2, none⟩ = some (.slice none 0 0) := blk HB1.out.res rfl
    have r3 : w1.cell? ⟨w.heap.size + 1, 3, none⟩ = some (.int .i64 0) := blk HB1.out.res rfl
    have r4 : w1.cell? ⟨w.heap.size + 1, 4, none⟩ = some (.int .i64 0) := blk HB1.out.res rfl
    have r5 : w1.cell? ⟨w.heap.size + 1, 5, none⟩ = some (.int .i64 0) := blk HB1.out.res rfl
    have r6 : w1.cell? ⟨w.heap.size + 1, 6, none⟩ = some (.int .i64 0) := blk HB1.out.res rfl
    have r7 : w1.cell? ⟨w.heap.size + 1, 7, none⟩ = some (.bool false) := blk HB1.out.res rfl
    have r8 : w1.cell? ⟨w.heap.size + 1, 8, none⟩ = some (.int .i64 0) := blk HB1.out.res rfl
    have r9 : w1.cell? ⟨w.heap.size + 1, 9, none⟩ = some (.int .i64 0) := blk HB1.out.res rfl
    have r10 : w1.cell? ⟨w.heap.size + 1, 10, none⟩ = some (.slice none 0 0) := blk HB1.out.res rfl
    have rf : ∀ i, w1.frozen? ⟨w.heap.size + 1, i, none⟩ = false := fun i => frozen_of_row w1 _ i _ _ HB1.out.res
    go_wp2
    refine bodyPost_ret (v := .tuple #[.agg #[.int .i64 0, .slice none 0 0, .slice none 0 0, .int .i64 0, .int .i64 0, .int .i64 0, .int .i64 0, .bool false, .int .i64 0, .int .i64 0, .slice none 0 0], .int .i64 120]) ?_ rfl ?_
    · simp only [results, hres]
      go_simp
    · exact ⟨none, 0, none, 0, none, 0, rfl, below_r HB1.out.low _ _ _ _ _ _ _ _ _ _ _, zero_rcO _ _⟩
  | true =>
    have htn : tn ≤ 9 := by rw [← HL.out.2.2.1]; exact (right_states HOK.out).1
    have c1 : w1.cell? ⟨w.heap.size, 1, none⟩ = some (.slice da dn dc) := blk HB1.out.box rfl
    go_wp2_with fail
    refine (HVl2.out w1 HB1.out.low).mono ?_
    rintro e wv ⟨va, vc, rfl, hov, hbv⟩
    have HBv : Hid (D5 w #[.int .i64 x.letters, .slice da dn dc, .slice sa sn sc, .int .i64 x.beg, .int .i64 x.fin, .int .i64 x.front, .int .i64 x.back, .bool x.banded, .int .i64 x.lo, .int .i64 x.hi, .slice ta tn tc] wv ∧ wv.ownsRow w1.heap.size 3 1 (.slice va vn vc) vn (itRow vs)) := ⟨HB1.out.next hbv HB1.out.sz, hov⟩
    clear hov hbv c1 HB1 HVl2
    have c0 : wv.cell? ⟨w.heap.size, 0, none⟩ = some (.int .i64 x.letters) := blk HBv.out.1.box rfl
    have c1 : wv.cell? ⟨w.heap.size, 1, none⟩ = some (.slice da dn dc) := blk HBv.out.1.box rfl
    have c2 : wv.cell? ⟨w.heap.size, 2, none⟩ = some (.slice sa sn sc) := blk HBv.out.1.box rfl
    have c3 : wv.cell? ⟨w.heap.size, 3, none⟩ = some (.int .i64 x.beg) := blk HBv.out.1.box rfl
    have c4 : wv.cell? ⟨w.heap.size, 4, none⟩ = some (.int .i64 x.fin) := blk HBv.out.1.box rfl
    have c5 : wv.cell? ⟨w.heap.size, 5, none⟩ = some (.int .i64 x.front) := blk HBv.out.1.box rfl
    have c6 : wv.cell? ⟨w.heap.size, 6, none⟩ = some (.int .i64 x.back) := blk HBv.out.1.box rfl
    have c7 : wv.cell? ⟨w.heap.size, 7, none⟩ = some (.bool x.banded) := blk HBv.out.1.box rfl
    have c8 : wv.cell? ⟨w.heap.size, 8, none⟩ = some (.int .i64 x.lo) := blk HBv.out.1.box rfl
    have c9 : wv.cell? ⟨w.heap.size, 9, none⟩ = some (.int .i64 x.hi) := blk HBv.out.1.box rfl
    have c10 : wv.cell? ⟨w.heap.size, 10, none⟩ = some (.slice ta tn tc) := blk HBv.out.1.box rfl
    go_wp2_with fail
    refine (HCp.out wv HOK.out HBv.out.1.low).mono ?_
    rintro e w2 ⟨oda, odc, osa, osc, ota, otc, osl, rfl, hb2, hcp⟩
    go_upto_region 6 with (fail)
    obtain ⟨ob, hob⟩ : ∃ ob, w2.heap.size = ob := ⟨_, rfl⟩
    obtain ⟨w3, hw3⟩ : ∃ w3, w3 = w2.alloc (.cells #[.int .i64 x.letters, .slice oda dn odc, .slice osa sn osc, .int .i64 x.beg, .int .i64 x.fin, .int .i64 x.front, .int .i64 x.back, .bool x.banded, .int .i64 x.lo, .int .i64 x.hi, .slice ota tn otc] 26) := ⟨_, rfl⟩
    rw [← hw3, hob]
    have HO : Hid (DpO w #[.int .i64 x.letters, .slice da dn dc, .slice sa sn sc, .int .i64 x.beg, .int .i64 x.fin, .int .i64 x.front, .int .i64 x.back, .bool x.banded, .int .i64 x.lo, .int .i64 x.hi, .slice ta tn tc] ob x x.states w3 ∧ w3.ownsRow w1.heap.size 3 1 (.slice va vn vc) vn (itRow vs)) := by
      have h0 : Below w2.heap.size w2 w3 := by rw [hw3]; exact (Below.refl _ _).alloc (Nat.le_refl _) _
      have hd := HBv.out.1.next hb2 HBv.out.1.sz
      have hz : w.heap.size ≤ wv.heap.size := HBv.out.1.low.size
      have hc2 := hcp.below h0
      refine ⟨⟨⟨oda, odc, osa, osc, ota, otc, osl, hd.next h0 hd.sz, by rw [← hob]; exact hd.sz, ?_, ⟨owned_base hc2.defs hz, owned_base hc2.subst hz, owned_base hc2.states hz, ⟨hc2.rows.1, fun i r s hi hs => ⟨(hc2.rows.2 i r s hi hs).1, (hc2.rows.2 i r s hi hs).2.1, owned_base (hc2.rows.2 i r s hi hs).2.2 hz⟩⟩, hc2.apart⟩⟩, right_sok HOK.out, right_edges HOK.out⟩, owned_below (owned_below HBv.out.2 hb2) h0⟩
      rw [hw3, ← hob, HL.out.1, HL.out.2.1, HL.out.2.2.1]
      exact heap_alloc_new w2 _
    clear hb2 hcp hw3 hob HBv HCp
    clear c0 c1 c2 c3 c4 c5 c6 c7 c8 c9 c10
    have c10 : w3.cell? ⟨w.heap.size, 10, none⟩ = some (.slice ta tn tc) := by
      obtain ⟨a, b, c, d, e, f, g, hw⟩ := HO.out.1.wt
      exact blk hw.d5.box rfl
    have HQ0 : Hid (∃ l, pruneG vs tn l = X.states ∧ tn ≤ l.length ∧ DpO w #[.int .i64 x.letters, .slice da dn dc, .slice sa sn sc, .int .i64 x.beg, .int .i64 x.fin, .int .i64 x.front, .int .i64 x.back, .bool x.banded, .int .i64 x.lo, .int .i64 x.hi, .slice ta tn tc] ob x l w3) := ⟨x.states, by rw [← HXc.out, pruneB, HL.out.2.2.1], by rw [HL.out.2.2.1]; exact Nat.le_refl _, HO.out.1⟩
    have HRow : Hid (w3.ownsRow w1.heap.size 3 1 (.slice va vn vc) vn (itRow vs)) := HO.out.2
    clear HO
    go_wp2
    clear c10
    go_loopg [8, 9] tn (fun q sv _ wr => q ≤ tn ∧ sv = .int .i64 ((q : Int) - 1) ∧ Hid ((∃ l, pruneG vs q l = X.states ∧ q ≤ l.length ∧ DpO w #[.int .i64 x.letters, .slice da dn dc, .slice sa sn sc, .int .i64 x.beg, .int .i64 x.fin, .int .i64 x.front, .int .i64 x.back, .bool x.banded, .int .i64 x.lo, .int .i64 x.hi, .slice ta tn tc] ob x l wr) ∧ wr.ownsRow w1.heap.size 3 1 (.slice va vn vc) vn (itRow vs)))
    case atStart => exact ⟨Nat.le_refl _, rfl, HQ0.out, HRow.out⟩
    case round =>
      clear HQ0 HRow
      obtain ⟨hqn, rfl, HQ⟩ := hrel
      by_cases hq : 0 < gk
      · obtain ⟨j, hj⟩ : ∃ j, gk = j + 1 := ⟨gk - 1, by omega⟩
        subst hj
        have ej : ((j + 1 : Nat) : Int) - 1 = (j : Int) := by omega
        rw [ej]
        clear ej
        obtain ⟨⟨l, hdl, hjl, hdw⟩, hrow⟩ := HQ.out
        have hj0 : decide ((0 : Int) ≤ (j : Int)) = true := by simp
        obtain ⟨da4, dc4, sa4, sc4, tt4, tc4, sl4, hwt⟩ := hdw.wt
        obtain ⟨m4, hm4⟩ : ∃ m4, l.length = m4 := ⟨_, rfl⟩
        have hvd : x.defs.length = vs.length := by rw [← HVs.out.1]; exact (right_defs HOK.out).2.symm
        have hok2 : SOk vs.length l := by rw [← hvd]; exact hdw.ok
        have hrb := rcB_with HOK.out hdw.ok hdw.few
        have hat := hwt.cp.at HL.out.2.2.2 hrb
        obtain ⟨V, hV⟩ : ∃ V, goneB vs l j = V := ⟨_, rfl⟩
        have HNv : Hid (Calls Try.prog 29 #[.agg #[.int .i64 x.letters, .slice da4 dn dc4, .slice sa4 sn sc4, .int .i64 x.beg, .int .i64 x.fin, .int .i64 x.front, .int .i64 x.back, .bool x.banded, .int .i64 x.lo, .int .i64 x.hi, .slice tt4 m4 tc4], .slice va vn vc, .int .i64 (j : Int)] wr fun e w' => e = .returned (.bool V) ∧ Below wr.heap.size wr w') := by
          have hia : IntA wr va vn vs := by
            have h1 := hrow
            rw [← HVn.out] at h1 ⊢
            exact intA_own h1 rfl (by unfold maxLen; have := (right_defs HOK.out).1; omega)
          have := never_calls { x with states := l } da4 x.defs.length dc4 sa4 x.subst.length sc4 tt4 l.length tc4 va vn vc vs wr ⟨hat, hia, hok2⟩ HVs.out.2 j (by omega)
          rw [gone_same hok2 HVs.out.2 j, hV] at this
          simp only [rcCells] at this
          rw [HL.out.1, HL.out.2.1, hm4] at this
          exact this
        have HWt : Hid (∀ W, Below wr.heap.size wr W → Calls Try.prog 30 #[.agg #[.int .i64 x.letters, .slice da4 dn dc4, .slice sa4 sn sc4, .int .i64 x.beg, .int .i64 x.fin, .int .i64 x.front, .int .i64 x.back, .bool x.banded, .int .i64 x.lo, .int .i64 x.hi, .slice tt4 m4 tc4], .int .i64 (j : Int)] W fun e w' => ∃ da2 dc2 sa2 sc2 ta2 tc2 sl, e = .returned (.agg (rcCells { x with states := takeB j l } da2 dn dc2 sa2 sn sc2 ta2 (takeB j l).length tc2)) ∧ Below W.heap.size W w' ∧ CpO w' W.heap.size { x with states := takeB j l } da2 dc2 sa2 sc2 ta2 tc2 sl) := fun W hW => by
          have := refwo_calls { x with states := l } da4 x.defs.length dc4 sa4 x.subst.length sc4 tt4 l.length tc4 W (hat.below hW) hrb hdw.ok hdw.few j
          simp only [rcCells] at this
          rw [HL.out.1, HL.out.2.1, hm4] at this
          exact this
        have HOb : Hid (∀ W, Below wr.heap.size wr W → W.heap[ob]? = some (.cells #[.int .i64 x.letters, .slice da4 dn dc4, .slice sa4 sn sc4, .int .i64 x.beg, .int .i64 x.fin, .int .i64 x.front, .int .i64 x.back, .bool x.banded, .int .i64 x.lo, .int .i64 x.hi, .slice tt4 m4 tc4] 26 (0, 0))) := fun W hW => by
          have h7 := (hwt.next hW).out
          unfold rcCells at h7
          simp only [HL.out.1, HL.out.2.1, hm4] at h7
          exact h7
        have HD : Hid (pruneG vs j (if V then takeB j l else l) = X.states ∧ j + 1 ≤ l.length ∧ WtO w #[.int .i64 x.letters, .slice da dn dc, .slice sa sn sc, .int .i64 x.beg, .int .i64 x.fin, .int .i64 x.front, .int .i64 x.back, .bool x.banded, .int .i64 x.lo, .int .i64 x.hi, .slice ta tn tc] ob x da4 dc4 sa4 sc4 tt4 tc4 sl4 l wr ∧ wr.ownsRow w1.heap.size 3 1 (.slice va vn vc) vn (itRow vs) ∧ SOk x.defs.length l ∧ ∀ s ∈ l, s.2.length ≤ 100) := by
          refine ⟨?_, hjl, hwt, hrow, hdw.ok, hdw.few⟩
          rw [pruneG, hV] at hdl
          exact hdl
        clear hdl hjl hdw hwt hrow HQ hm4 hvd hok2 hrb hat hV
        have p0 : wr.cell? ⟨ob, 0, none⟩ = some (.int .i64 x.letters) := blk (HOb.out wr (Below.refl _ _)) rfl
        have p1 : wr.cell? ⟨ob, 1, none⟩ = some (.slice da4 dn dc4) := blk (HOb.out wr (Below.refl _ _)) rfl
        have p2 : wr.cell? ⟨ob, 2, none⟩ = some (.slice sa4 sn sc4) := blk (HOb.out wr (Below.refl _ _)) rfl
        have p3 : wr.cell? ⟨ob, 3, none⟩ = some (.int .i64 x.beg) := blk (HOb.out wr (Below.refl _ _)) rfl
        have p4 : wr.cell? ⟨ob, 4, none⟩ = some (.int .i64 x.fin) := blk (HOb.out wr (Below.refl _ _)) rfl
        have p5 : wr.cell? ⟨ob, 5, none⟩ = some (.int .i64 x.front) := blk (HOb.out wr (Below.refl _ _)) rfl
        have p6 : wr.cell? ⟨ob, 6, none⟩ = some (.int .i64 x.back) := blk (HOb.out wr (Below.refl _ _)) rfl
        have p7 : wr.cell? ⟨ob, 7, none⟩ = some (.bool x.banded) := blk (HOb.out wr (Below.refl _ _)) rfl
        have p8 : wr.cell? ⟨ob, 8, none⟩ = some (.int .i64 x.lo) := blk (HOb.out wr (Below.refl _ _)) rfl
        have p9 : wr.cell? ⟨ob, 9, none⟩ = some (.int .i64 x.hi) := blk (HOb.out wr (Below.refl _ _)) rfl
        have p10 : wr.cell? ⟨ob, 10, none⟩ = some (.slice tt4 m4 tc4) := blk (HOb.out wr (Below.refl _ _)) rfl
        go_wp2_with fail
        refine HNv.out.mono ?_
        rintro e w4 ⟨rfl, hb4⟩
        have HX4 : Hid (Below wr.heap.size wr w4) := hb4
        clear hb4 HNv p0 p1 p2 p3 p4 p5 p6 p7 p8 p9 p10
        cases V with
        | false =>
          have HN : Hid ((∃ l, pruneG vs j l = X.states ∧ j ≤ l.length ∧ DpO w #[.int .i64 x.letters, .slice da dn dc, .slice sa sn sc, .int .i64 x.beg, .int .i64 x.fin, .int .i64 x.front, .int .i64 x.back, .bool x.banded, .int .i64 x.lo, .int .i64 x.hi, .slice ta tn tc] ob x l w4) ∧ w4.ownsRow w1.heap.size 3 1 (.slice va vn vc) vn (itRow vs)) := by
            obtain ⟨h1, h2, h3, h4, h5, h6⟩ := HD.out
            rw [if_neg (by decide)] at h1
            exact ⟨⟨l, h1, by omega, ⟨_, _, _, _, _, _, _, h3.next HX4.out⟩, h5, h6⟩, owned_below h4 HX4.out⟩
          clear HD HWt HOb HX4
          go_wp2
          go_roundg j
          case measure => omega
          case rel => exact ⟨by omega, rfl, HN.out⟩
        | true =>
          have hob4 := HOb.out w4 HX4.out
          have p0 : w4.cell? ⟨ob, 0, none⟩ = some (.int .i64 x.letters) := blk hob4 rfl
          have p1 : w4.cell? ⟨ob, 1, none⟩ = some (.slice da4 dn dc4) := blk hob4 rfl
          have p2 : w4.cell? ⟨ob, 2, none⟩ = some (.slice sa4 sn sc4) := blk hob4 rfl
          have p3 : w4.cell? ⟨ob, 3, none⟩ = some (.int .i64 x.beg) := blk hob4 rfl
          have p4 : w4.cell? ⟨ob, 4, none⟩ = some (.int .i64 x.fin) := blk hob4 rfl
          have p5 : w4.cell? ⟨ob, 5, none⟩ = some (.int .i64 x.front) := blk hob4 rfl
          have p6 : w4.cell? ⟨ob, 6, none⟩ = some (.int .i64 x.back) := blk hob4 rfl
          have p7 : w4.cell? ⟨ob, 7, none⟩ = some (.bool x.banded) := blk hob4 rfl
          have p8 : w4.cell? ⟨ob, 8, none⟩ = some (.int .i64 x.lo) := blk hob4 rfl
          have p9 : w4.cell? ⟨ob, 9, none⟩ = some (.int .i64 x.hi) := blk hob4 rfl
          have p10 : w4.cell? ⟨ob, 10, none⟩ = some (.slice tt4 m4 tc4) := blk hob4 rfl
          clear hob4
          go_wp2_with fail
          refine (HWt.out w4 HX4.out).mono ?_
          rintro e w5 ⟨da5, dc5, sa5, sc5, tt5, tc5, sl5, rfl, hb5, hcp5⟩
          have HN : Hid ((∃ l', pruneG vs j l' = X.states ∧ j ≤ l'.length ∧ DpO w #[.int .i64 x.letters, .slice da dn dc, .slice sa sn sc, .int .i64 x.beg, .int .i64 x.fin, .int .i64 x.front, .int .i64 x.back, .bool x.banded, .int .i64 x.lo, .int .i64 x.hi, .slice ta tn tc] ob x l' (((((((((((w5.setCell ⟨ob, 0, none⟩ (.int .i64 x.letters)).setCell ⟨ob, 1, none⟩ (.slice da5 dn dc5)).setCell ⟨ob, 2, none⟩ (.slice sa5 sn sc5)).setCell ⟨ob, 3, none⟩ (.int .i64 x.beg)).setCell ⟨ob, 4, none⟩ (.int .i64 x.fin)).setCell ⟨ob, 5, none⟩ (.int .i64 x.front)).setCell ⟨ob, 6, none⟩ (.int .i64 x.back)).setCell ⟨ob, 7, none⟩ (.bool x.banded)).setCell ⟨ob, 8, none⟩ (.int .i64 x.lo)).setCell ⟨ob, 9, none⟩ (.int .i64 x.hi)).setCell ⟨ob, 10, none⟩ (.slice tt5 (takeB j l).length tc5))) ∧ (((((((((((w5.setCell ⟨ob, 0, none⟩ (.int .i64 x.letters)).setCell ⟨ob, 1, none⟩ (.slice da5 dn dc5)).setCell ⟨ob, 2, none⟩ (.slice sa5 sn sc5)).setCell ⟨ob, 3, none⟩ (.int .i64 x.beg)).setCell ⟨ob, 4, none⟩ (.int .i64 x.fin)).setCell ⟨ob, 5, none⟩ (.int .i64 x.front)).setCell ⟨ob, 6, none⟩ (.int .i64 x.back)).setCell ⟨ob, 7, none⟩ (.bool x.banded)).setCell ⟨ob, 8, none⟩ (.int .i64 x.lo)).setCell ⟨ob, 9, none⟩ (.int .i64 x.hi)).setCell ⟨ob, 10, none⟩ (.slice tt5 (takeB j l).length tc5)).ownsRow w1.heap.size 3 1 (.slice va vn vc) vn (itRow vs)) := by
            obtain ⟨h1, h2, h3, h4, h5, h6⟩ := HD.out
            rw [if_pos trivial] at h1
            have h7 := (h3.next HX4.out).anew hb5 hcp5
            rw [HL.out.1, HL.out.2.1] at h7
            refine ⟨⟨takeB j l, h1, by rw [takeB_len j l (by omega)]; omega, ⟨_, _, _, _, _, _, _, h7⟩, takeB_ok h5 (by omega), takeB_edges j l 100 h6⟩, ?_⟩
            exact (h3.next HX4.out).keep hb5 (owned_below h4 HX4.out) (by decide) _ _ _ _ _ _ _ _ _ _ _
          have hob5 := HOb.out w5 (HX4.out.trans (hb5.mono HX4.out.size))
          have q0 : w5.cell? ⟨ob, 0, none⟩ = some (.int .i64 x.letters) := blk hob5 rfl
          have q1 : w5.cell? ⟨ob, 1, none⟩ = some (.slice da4 dn dc4) := blk hob5 rfl
          have q2 : w5.cell? ⟨ob, 2, none⟩ = some (.slice sa4 sn sc4) := blk hob5 rfl
          have q3 : w5.cell? ⟨ob, 3, none⟩ = some (.int .i64 x.beg) := blk hob5 rfl
          have q4 : w5.cell? ⟨ob, 4, none⟩ = some (.int .i64 x.fin) := blk hob5 rfl
          have q5 : w5.cell? ⟨ob, 5, none⟩ = some (.int .i64 x.front) := blk hob5 rfl
          have q6 : w5.cell? ⟨ob, 6, none⟩ = some (.int .i64 x.back) := blk hob5 rfl
          have q7 : w5.cell? ⟨ob, 7, none⟩ = some (.bool x.banded) := blk hob5 rfl
          have q8 : w5.cell? ⟨ob, 8, none⟩ = some (.int .i64 x.lo) := blk hob5 rfl
          have q9 : w5.cell? ⟨ob, 9, none⟩ = some (.int .i64 x.hi) := blk hob5 rfl
          have q10 : w5.cell? ⟨ob, 10, none⟩ = some (.slice tt4 m4 tc4) := blk hob5 rfl
          have pf : ∀ i, w5.frozen? ⟨ob, i, none⟩ = false := fun i => frozen_of_row w5 _ i _ _ hob5
          unfold rcCells
          clear hob5 hb5 hcp5 HD HWt HOb HX4 p0 p1 p2 p3 p4 p5 p6 p7 p8 p9 p10
          go_wp2
          go_roundg j
          case measure => omega
          case rel => exact ⟨by omega, rfl, HN.out⟩
      · obtain rfl : gk = 0 := by omega
        obtain ⟨⟨l, hdl, _, hdw⟩, _⟩ := HQ.out
        obtain ⟨da4, dc4, sa4, sc4, tt4, tc4, sl4, hwt⟩ := hdw.wt
        obtain ⟨m4, hm4⟩ : ∃ m4, l.length = m4 := ⟨_, rfl⟩
        have ho := hwt.out
        unfold rcCells at ho
        simp only [HL.out.1, HL.out.2.1, hm4] at ho
        have p0 : wr.cell? ⟨ob, 0, none⟩ = some (.int .i64 x.letters) := blk ho rfl
        have p1 : wr.cell? ⟨ob, 1, none⟩ = some (.slice da4 dn dc4) := blk ho rfl
        have p2 : wr.cell? ⟨ob, 2, none⟩ = some (.slice sa4 sn sc4) := blk ho rfl
        have p3 : wr.cell? ⟨ob, 3, none⟩ = some (.int .i64 x.beg) := blk ho rfl
        have p4 : wr.cell? ⟨ob, 4, none⟩ = some (.int .i64 x.fin) := blk ho rfl
        have p5 : wr.cell? ⟨ob, 5, none⟩ = some (.int .i64 x.front) := blk ho rfl
        have p6 : wr.cell? ⟨ob, 6, none⟩ = some (.int .i64 x.back) := blk ho rfl
        have p7 : wr.cell? ⟨ob, 7, none⟩ = some (.bool x.banded) := blk ho rfl
        have p8 : wr.cell? ⟨ob, 8, none⟩ = some (.int .i64 x.lo) := blk ho rfl
        have p9 : wr.cell? ⟨ob, 9, none⟩ = some (.int .i64 x.hi) := blk ho rfl
        have p10 : wr.cell? ⟨ob, 10, none⟩ = some (.slice tt4 m4 tc4) := blk ho rfl
        have r0 : wr.cell? ⟨w.heap.size + 1, 0, none⟩ = some (.int .i64 0) := blk hwt.d5.res rfl
        have r1 : wr.cell? ⟨w.heap.size + 1, 1, none⟩ = some (.slice none 0 0) := blk hwt.d5.res rfl
        have r2 : wr.cell? ⟨w.heap.size + 1, 2, none⟩ = some (.slice none 0 0) := blk hwt.d5.res rfl
        have r3 : wr.cell? ⟨w.heap.size + 1, 3, none⟩ = some (.int .i64 0) := blk hwt.d5.res rfl
        have r4 : wr.cell? ⟨w.heap.size + 1, 4, none⟩ = some (.int .i64 0) := blk hwt.d5.res rfl
        have r5 : wr.cell? ⟨w.heap.size + 1, 5, none⟩ = some (.int .i64 0) := blk hwt.d5.res rfl
        have r6 : wr.cell? ⟨w.heap.size + 1, 6, none⟩ = some (.int .i64 0) := blk hwt.d5.res rfl
        have r7 : wr.cell? ⟨w.heap.size + 1, 7, none⟩ = some (.bool false) := blk hwt.d5.res rfl
        have r8 : wr.cell? ⟨w.heap.size + 1, 8, none⟩ = some (.int .i64 0) := blk hwt.d5.res rfl
        have r9 : wr.cell? ⟨w.heap.size + 1, 9, none⟩ = some (.int .i64 0) := blk hwt.d5.res rfl
        have r10 : wr.cell? ⟨w.heap.size + 1, 10, none⟩ = some (.slice none 0 0) := blk hwt.d5.res rfl
        have rf : ∀ i, wr.frozen? ⟨w.heap.size + 1, i, none⟩ = false := fun i => frozen_of_row wr _ i _ _ hwt.d5.res
        have HE : Hid (X = { x with states := l } ∧ l.length = m4 ∧ D5 w #[.int .i64 x.letters, .slice da dn dc, .slice sa sn sc, .int .i64 x.beg, .int .i64 x.fin, .int .i64 x.front, .int .i64 x.back, .bool x.banded, .int .i64 x.lo, .int .i64 x.hi, .slice ta tn tc] wr ∧ RcO wr w.heap.size { x with states := l } da4 dc4 sa4 sc4 tt4 tc4) := by
          refine ⟨?_, hm4, hwt.d5, hwt.cp.rcO hdw.few⟩
          have h1 : l = X.states := hdl
          rw [h1, ← HXc.out]
          rfl
        clear HQ hdl hdw hwt ho hm4
        go_wp2
        refine bodyPost_ret (v := .tuple #[.agg #[.int .i64 x.letters, .slice da4 dn dc4, .slice sa4 sn sc4, .int .i64 x.beg, .int .i64 x.fin, .int .i64 x.front, .int .i64 x.back, .bool x.banded, .int .i64 x.lo, .int .i64 x.hi, .slice tt4 m4 tc4], .int .i64 0]) ?_ rfl ?_
        · simp only [results, hres]
          go_simp
        · obtain ⟨h1, h2, h3, h4⟩ := HE.out
          refine ⟨da4, dc4, sa4, sc4, tt4, tc4, ?_, below_r h3.low _ _ _ _ _ _ _ _ _ _ _, ?_⟩
          · show Ending.returned _ = Ending.returned (.tuple #[.agg (rcCells X da4 X.defs.length dc4 sa4 X.subst.length sc4 tt4 X.states.length tc4), .int .i64 0])
            rw [h1]
            simp only [rcCells, HL.out.1, HL.out.2.1, h2]
          · show RcO _ w.heap.size X da4 dc4 sa4 sc4 tt4 tc4
            rw [h1]
            exact h4.by h3.res (grown_r _ _ _ _ _ _ _ _ _ _ _)
theorem pruneG_le (vs : List Int) : ∀ (k : Nat) (l : List St), (pruneG vs k l).length ≤ l.length
  | 0, _ => Nat.le_refl _
  | k + 1, l => by
    rw [pruneG]
    refine Nat.le_trans (pruneG_le vs k _) ?_
    split
    · exact takeB_le k l
    · exact Nat.le_refl _
theorem prune_fit {x : Rc} (h : rightR x = true) (hf : ∀ d ∈ x.defs, InR d.num) : Fit (pruneB x (valsB x.defs).1) := by
  have h1 := (right_defs h).1
  have h2 := (right_subst h).1
  have h3 := (right_states h).1
  have h4 := pruneG_le (valsB x.defs).1 x.states.length x.states
  exact ⟨hf, by show x.defs.length ≤ _; omega, by show x.subst.length ≤ _; omega, by show (pruneG _ _ _).length ≤ _; omega⟩
end Go.Proofs.Ytolehoibpnenlaa
