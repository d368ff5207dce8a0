/-
  The document's own best path.
-/
import Derived.Test.YtegndeefddlccaaQaE
import Derived.Test.YtegndeefddlccaaPqG
namespace Go.Proofs.Ytegndeefddlccaa
open Go.RowKit

structure Q2 (w : World) (mc : Array Value) (wr : World) : Prop where
  low : Below w.heap.size w wr
  box : wr.heap[w.heap.size]? = some (.cells mc 31 (0, 0))
  res : wr.heap[w.heap.size + 1]? = some (.cells #[.int .i64 0, .int .i64 0, .int .i64 0, .string ⟨#[]⟩] 43 (0, 0))
theorem Q2.start (w : World) (mc : Array Value) : Q2 w mc ((w.alloc (.cells mc 31)).alloc (.cells #[.int .i64 0, .int .i64 0, .int .i64 0, .string ⟨#[]⟩] 43)) :=
  ⟨below_al (bl1 _ _) _, hp_old (hp_at rfl), hp_at (by simp)⟩
theorem Q2.next {w : World} {mc : Array Value} {wr w2 : World} (h : Q2 w mc wr) (hb : Below wr.heap.size wr w2) : Q2 w mc w2 :=
  ⟨h.low.trans (hb.mono h.low.size), (Fr.of_below (O := fun _ => False) hb).heap h.box (fun h => h), (Fr.of_below (O := fun _ => False) hb).heap h.res (fun h => h)⟩
structure BeSt (w2 : World) (r : Int × Pt) (wr : World) : Prop where
  bel : Below w2.heap.size w2 wr
  best : wr.heap[w2.heap.size]? = some (.cells (fnC r) 43 (0, 0))
theorem BeSt.next {w2 : World} {r : Int × Pt} {wr w3 : World} (h : BeSt w2 r wr) (hb : Below wr.heap.size wr w3) : BeSt w2 r w3 :=
  ⟨h.bel.trans (hb.mono h.bel.size), by rw [hb.block _ (Array.getElem?_eq_some_iff.1 h.best).1]; exact h.best⟩
theorem BeSt.put {w2 : World} {r : Int × Pt} {wr : World} (h : BeSt w2 r wr) (q : Int × Pt) : BeSt w2 q ((((wr.setCell ⟨w2.heap.size, 0, none⟩ (.int .i64 q.1)).setCell ⟨w2.heap.size, 1, none⟩ (.int .i64 q.2.i)).setCell ⟨w2.heap.size, 2, none⟩ (.int .i64 q.2.j)).setCell ⟨w2.heap.size, 3, none⟩ (.string (bs q.2.cols))) :=
  ⟨below4 h.bel (Nat.le_refl _) _ _ _ _, set4 h.best _ _ _ _⟩
theorem sh_most {m : Md} {xs ys : List Int} (h : shE m xs ys = 0) : (xs.length : Int) ≤ most (wid m) ∧ (ys.length : Int) ≤ most (wid m) := refE_most (shE_ref h)
set_option maxRecDepth 20000 in
set_option maxHeartbeats 4000000 in
theorem bestR_calls (m : Md) (sa : Option Addr) (sn sc : Nat) (ga : Option Addr) (gn gc : Nat) (xa : Option Addr) (xn xc : Nat) (ya : Option Addr) (yn yc : Nat) (xs ys : List Int) (w : World) (h : MdAt w m sa sn ga gn) (hx : IntsAt w xa xn xs) (hy : IntsAt w ya yn ys) :
    Calls Try.prog 20 #[.agg (mdCells m sa sn sc ga gn gc), .slice xa xn xc, .slice ya yn yc] w fun e w' => BestPost m xs ys w e w' := by
  have hres : Try.f20.results = #[.cell 6 43, .tmp 7] := by kernel_rfl
  have hxl := hx.length
  have hyl := hy.length
  have HM : Hid (MdAt w m sa sn ga gn) := h
  have HX : Hid (IntsAt w xa xn xs) := hx
  have HY : Hid (IntsAt w ya yn ys) := hy
  have CA : Hid (∀ W, Below w.heap.size w W → Calls Try.prog 17 #[.agg #[.int .i64 m.letters, .slice sa sn sc, .slice ga gn gc, .int .i64 m.mode, .bool m.banded, .int .i64 m.lo, .int .i64 m.hi, .int .i64 m.front, .int .i64 m.back, .int .i64 m.least], .slice xa xn xc, .slice ya yn yc] W fun e w' => AllRPost m xs ys W e w') := fun W hb => allR_calls m sa sn sc ga gn gc xa xn xc ya yn yc xs ys W (h.below hb) (hx.below hb) (hy.below hb)
  have HB0 : Hid (Q2 w (mdCells m sa sn sc ga gn gc) ((w.alloc (.cells (mdCells m sa sn sc ga gn gc) 31)).alloc (.cells #[.int .i64 0, .int .i64 0, .int .i64 0, .string ⟨#[]⟩] 43))) := Q2.start w _
  clear h hx hy
  rw [show (mdCells m sa sn sc ga gn gc) = #[.int .i64 m.letters, .slice sa sn sc, .slice ga gn gc, .int .i64 m.mode, .bool m.banded, .int .i64 m.lo, .int .i64 m.hi, .int .i64 m.front, .int .i64 m.back, .int .i64 m.least] from rfl]
  go_enter Try.func20, Try.ntmps20
  go_wp2_with fail
  refine (CA.out _ HB0.out.low).mono ?_
  rintro e w2 ⟨v, rfl, hb2, hok, hno⟩
  have HB2 : Hid (Q2 w (mdCells m sa sn sc ga gn gc) w2) := HB0.out.next hb2
  have hw2 : w.heap.size + 1 < w2.heap.size := (Array.getElem?_eq_some_iff.1 HB2.out.res).1
  clear hb2 HB0 CA
  have r0 := cell_block HB2.out.res 0 (.int .i64 0) rfl; have r1 := cell_block HB2.out.res 1 (.int .i64 0) rfl; have r2 := cell_block HB2.out.res 2 (.int .i64 0) rfl; have r3 := cell_block HB2.out.res 3 (.string ⟨#[]⟩) rfl; have rf : ∀ i, w2.frozen? ⟨w.heap.size + 1, i, none⟩ = false := fun i => cellf HB2.out.res i
  by_cases he : shE m xs ys = 0
  case neg =>
    obtain rfl := hno he
    have HE : Hid (bsE m xs ys = shE m xs ys ∧ bsV m xs ys = fn0) := bs_err he
    generalize shE m xs ys = q at *
    have e1 : (q != 0) = true := by simpa using he
    clear hok hno he
    go_wp2
    refine bodyPost_ret (v := .tuple #[.agg #[.int .i64 0, .int .i64 0, .int .i64 0, .string ⟨#[]⟩], .int .i64 q]) ?_ rfl ?_
    · simp only [results, hres]
      go_simp
    · exact ⟨by show _ = _; rw [HE.out.1, HE.out.2]; rfl, below4 HB2.out.low (by omega) _ _ _ _⟩
  obtain ⟨ao, cap, rfl, hpt, _⟩ := hok he
  have HS : Hid (shE m xs ys = 0) := he
  rw [he]
  have e1 : ((0 : Int) != 0) = false := rfl
  clear hok hno he
  obtain ⟨P, hP⟩ : ∃ P, pathsB m xs.length ys.length = P := ⟨_, rfl⟩
  have HPe : Hid (pathsB m xs.length ys.length = P) := hP
  rw [hP] at hpt ⊢
  obtain ⟨n, hn⟩ : ∃ n, P.length = n := ⟨_, rfl⟩
  have HPn : Hid (P.length = n) := hn
  rw [hn] at hpt ⊢
  have HPt : Hid (PtsAt w2 ao n P) := hpt
  have hn8 := hpt.short
  clear hP hn hpt
  by_cases hn0 : n = 0
  · have HE : Hid (bsE m xs ys = 130 ∧ bsV m xs ys = fn0) := by
      refine bs_none HS.out ?_
      have hPnil : P = [] := List.eq_nil_of_length_eq_zero (by rw [HPn.out]; exact hn0)
      rw [HPe.out, hPnil]
      rfl
    have e2 : ((n : Int) == 0) = true := by simp [hn0]
    go_wp2
    refine bodyPost_ret (v := .tuple #[.agg #[.int .i64 0, .int .i64 0, .int .i64 0, .string ⟨#[]⟩], .int .i64 130]) ?_ rfl ?_
    · simp only [results, hres]
      go_simp
    · exact ⟨by show _ = _; rw [HE.out.1, HE.out.2]; rfl, below4 HB2.out.low (by omega) _ _ _ _⟩
  · have e2 : ((n : Int) == 0) = false := by simpa using hn0
    obtain ⟨g, off, rfl, hcs⟩ := HPt.out.cells (by omega)
    have HCs : Hid (∀ (i : Nat) (p : Pt), P[i]? = some p → ∀ W, Below w2.heap.size w2 W → W.cell? ⟨g, off + i * 3, none⟩ = some (.int .i64 p.i) ∧ W.cell? ⟨g, off + i * 3 + 1, none⟩ = some (.int .i64 p.j) ∧ W.cell? ⟨g, off + i * 3 + 2, none⟩ = some (.string (bs p.cols))) := fun i p hi W hW => by
      obtain ⟨c1, c2, c3⟩ := hcs i p hi
      exact ⟨by rw [hW.cell (World.block_lt_of_cell? w2 _ c1)]; exact c1, by rw [hW.cell (World.block_lt_of_cell? w2 _ c2)]; exact c2, by rw [hW.cell (World.block_lt_of_cell? w2 _ c3)]; exact c3⟩
    have HOk : Hid (∀ p ∈ P, allowsB m xs.length ys.length p = true ∧ p.cols.length ≤ 1000000) := by
      rw [← HPe.out]
      intro p hp
      have := pathsB_ok hp
      have h8 := shE_len HS.out
      exact ⟨this.1, by omega⟩
    have HG0 : Hid (BeSt w2 fn0 (w2.alloc (.cells #[.int .i64 0, .int .i64 0, .int .i64 0, .string ⟨#[]⟩] 43))) := ⟨bl1 _ _, hp_at rfl⟩
    have HMC : Hid (∀ W, Below w2.heap.size w2 W → W.cell? ⟨w.heap.size, 0, none⟩ = some (.int .i64 m.letters) ∧ W.cell? ⟨w.heap.size, 1, none⟩ = some (.slice sa sn sc) ∧ W.cell? ⟨w.heap.size, 2, none⟩ = some (.slice ga gn gc) ∧ W.cell? ⟨w.heap.size, 3, none⟩ = some (.int .i64 m.mode) ∧ W.cell? ⟨w.heap.size, 4, none⟩ = some (.bool m.banded) ∧ W.cell? ⟨w.heap.size, 5, none⟩ = some (.int .i64 m.lo) ∧ W.cell? ⟨w.heap.size, 6, none⟩ = some (.int .i64 m.hi) ∧ W.cell? ⟨w.heap.size, 7, none⟩ = some (.int .i64 m.front) ∧ W.cell? ⟨w.heap.size, 8, none⟩ = some (.int .i64 m.back) ∧ W.cell? ⟨w.heap.size, 9, none⟩ = some (.int .i64 m.least)) := fun W hW => by
      have hb := (HB2.out.next hW).box
      exact ⟨cell_block hb 0 _ rfl, cell_block hb 1 _ rfl, cell_block hb 2 _ rfl, cell_block hb 3 _ rfl, cell_block hb 4 _ rfl, cell_block hb 5 _ rfl, cell_block hb 6 _ rfl, cell_block hb 7 _ rfl, cell_block hb 8 _ rfl, cell_block hb 9 _ rfl⟩
    clear hcs r0 r1 r2 r3 rf
    go_wp2
    go_loopw [11] (fun i wr => ∃ (k : Nat) (r : Int × Pt), k ≤ n ∧ i = .int .i64 k ∧ BeSt w2 r wr ∧ (0 < k → bestL m xs ys (P.take k) = some r)) (fun i _ => n - (intOf i).toNat)
    case atStart => exact ⟨0, fn0, Nat.zero_le _, rfl, HG0.out, fun h => by omega⟩
    case round =>
      clear HG0
      obtain ⟨k, r, hk, rfl, hst, hbs⟩ := hrel
      have HG : Hid (BeSt w2 r wr) := hst
      have HBs : Hid (0 < k → bestL m xs ys (P.take k) = some r) := hbs
      clear hst hbs
      by_cases hkn : k < n
      · obtain ⟨p, hp⟩ : ∃ p, P[k]? = some p := ⟨_, List.getElem?_eq_getElem (by rw [HPn.out]; exact hkn)⟩
        have HPk : Hid (P[k]? = some p) := hp
        have hmem := List.mem_of_getElem? hp
        obtain ⟨ha, hc9⟩ := HOk.out p hmem
        obtain ⟨N, hN⟩ : ∃ N, worthW m xs ys p = N := ⟨_, rfl⟩
        have HN : Hid (worthW m xs ys p = N) := hN
        have CW : Hid (∀ W, Below w2.heap.size w2 W → Calls Try.prog 31 #[.agg #[.int .i64 m.letters, .slice sa sn sc, .slice ga gn gc, .int .i64 m.mode, .bool m.banded, .int .i64 m.lo, .int .i64 m.hi, .int .i64 m.front, .int .i64 m.back, .int .i64 m.least], .slice xa xn xc, .slice ya yn yc, .agg #[.int .i64 p.i, .int .i64 p.j, .string (bs p.cols)]] W fun e w' => e = .returned (.int .i64 N) ∧ Below W.heap.size W w') := fun W hW => by
          have hlow := HB2.out.low.trans (hW.mono HB2.out.low.size)
          have hm := sh_most HS.out
          rw [hxl, hyl] at hm
          have := worthR_calls m sa sn sc ga gn gc xa xn xc ya yn yc xs ys p.i p.j (bs p.cols) W (fdOk_of (shE_ref HS.out) (HM.out.below hlow) (HX.out.below hlow) (HY.out.below hlow)) hm (by rw [bs_len]; unfold maxLen; omega) (by rw [bs_back, ← hxl, ← hyl]; exact ha)
          rw [bs_back] at this
          rw [show worthW m xs ys ⟨p.i, p.j, p.cols⟩ = N from hN] at this
          exact this
        have HSn : Hid (bestL m xs ys (P.take (k + 1)) = bstep m xs ys (bestL m xs ys (P.take k)) p) := by
          show _ = _
          rw [take_snocD _ _ _ HPk.out, bestL_snoc]
        clear hp hmem ha hc9 hN
        obtain ⟨J, hJ⟩ : ∃ J : World → Prop, J = BeSt w2 r := ⟨_, rfl⟩
        have HJE : Hid (J = BeSt w2 r) := hJ
        have HJB : Hid (∀ W, J W → Below w2.heap.size w2 W) := by rw [hJ]; exact fun W h => h.bel
        have HJN : Hid (∀ W W2, J W → Below W.heap.size W W2 → J W2) := by rw [hJ]; exact fun W W2 h1 h2 => h1.next h2
        have HJC : Hid (∀ W, J W → (W.cell? ⟨w.heap.size, 0, none⟩ = some (.int .i64 m.letters) ∧ W.cell? ⟨w.heap.size, 1, none⟩ = some (.slice sa sn sc) ∧ W.cell? ⟨w.heap.size, 2, none⟩ = some (.slice ga gn gc) ∧ W.cell? ⟨w.heap.size, 3, none⟩ = some (.int .i64 m.mode) ∧ W.cell? ⟨w.heap.size, 4, none⟩ = some (.bool m.banded) ∧ W.cell? ⟨w.heap.size, 5, none⟩ = some (.int .i64 m.lo) ∧ W.cell? ⟨w.heap.size, 6, none⟩ = some (.int .i64 m.hi) ∧ W.cell? ⟨w.heap.size, 7, none⟩ = some (.int .i64 m.front) ∧ W.cell? ⟨w.heap.size, 8, none⟩ = some (.int .i64 m.back) ∧ W.cell? ⟨w.heap.size, 9, none⟩ = some (.int .i64 m.least)) ∧ W.cell? ⟨g, off + k * 3, none⟩ = some (.int .i64 p.i) ∧ W.cell? ⟨g, off + k * 3 + 1, none⟩ = some (.int .i64 p.j) ∧ W.cell? ⟨g, off + k * 3 + 2, none⟩ = some (.string (bs p.cols))) := fun W hW => ⟨HMC.out _ (HJB.out _ hW), HCs.out k p HPk.out _ (HJB.out _ hW)⟩
        have j0 : J wr := by rw [hJ]; exact HG.out
        have jd : J wr.drew := HJN.out _ _ j0 (Below.refl _ _).drew
        clear hJ HG
        go_wp2_with fail
        go_region_held3 (fun W => J W ∧ (W.cell? ⟨w.heap.size, 0, none⟩ = some (.int .i64 m.letters) ∧ W.cell? ⟨w.heap.size, 1, none⟩ = some (.slice sa sn sc) ∧ W.cell? ⟨w.heap.size, 2, none⟩ = some (.slice ga gn gc) ∧ W.cell? ⟨w.heap.size, 3, none⟩ = some (.int .i64 m.mode) ∧ W.cell? ⟨w.heap.size, 4, none⟩ = some (.bool m.banded) ∧ W.cell? ⟨w.heap.size, 5, none⟩ = some (.int .i64 m.lo) ∧ W.cell? ⟨w.heap.size, 6, none⟩ = some (.int .i64 m.hi) ∧ W.cell? ⟨w.heap.size, 7, none⟩ = some (.int .i64 m.front) ∧ W.cell? ⟨w.heap.size, 8, none⟩ = some (.int .i64 m.back) ∧ W.cell? ⟨w.heap.size, 9, none⟩ = some (.int .i64 m.least)) ∧ W.cell? ⟨g, off + k * 3, none⟩ = some (.int .i64 p.i) ∧ W.cell? ⟨g, off + k * 3 + 1, none⟩ = some (.int .i64 p.j) ∧ W.cell? ⟨g, off + k * 3 + 2, none⟩ = some (.string (bs p.cols))) (first | with_reducible assumption | (refine ⟨?_, HJC.out _ ?_⟩ <;> with_reducible assumption)) (first
          | (go_at_call 31; (with_reducible refine (CW.out _ (HJB.out _ (by with_reducible assumption))).mono ?_); rintro e w5 ⟨rfl, hb5⟩; have j5 : J w5 := HJN.out _ _ (by with_reducible assumption) hb5; clear hb5))
        rename_i hh
        clear hh j0 jd CW
        have HG5 : Hid (BeSt w2 r w5) := by rw [← HJE.out]; exact j5
        obtain ⟨p0, p1, p2⟩ := (HJC.out _ j5).2
        have b0 := cell_block HG5.out.best 0 (.int .i64 r.1) rfl
        have b1 := cell_block HG5.out.best 1 (.int .i64 r.2.i) rfl
        have b2 := cell_block HG5.out.best 2 (.int .i64 r.2.j) rfl
        have b3 := cell_block HG5.out.best 3 (.string (bs r.2.cols)) rfl
        have bf : ∀ i, w5.frozen? ⟨w2.heap.size, i, none⟩ = false := fun i => cellf HG5.out.best i
        clear j5 HJE HJB HJN HJC HMC
        by_cases hk0 : k = 0
        · have ek : ((k : Int) == 0) = true := by simp [hk0]
          have HF : Hid (bestL m xs ys (P.take (k + 1)) = some (N, p)) := by
            show _ = _
            rw [HSn.out, hk0, List.take_zero, ← HN.out]
            rfl
          have HP6 : Hid (BeSt w2 (N, p) ((((w5.setCell ⟨w2.heap.size, 0, none⟩ (.int .i64 N)).setCell ⟨w2.heap.size, 1, none⟩ (.int .i64 p.i)).setCell ⟨w2.heap.size, 2, none⟩ (.int .i64 p.j)).setCell ⟨w2.heap.size, 3, none⟩ (.string (bs p.cols)))) := HG5.out.put (N, p)
          clear hk0
          go_wp2
          go_roundw
          case rel => exact ⟨k + 1, (N, p), by omega, by go_num, HP6.out, fun _ => HF.out⟩
          case measure => simp [intOf]; omega
        · have ek : ((k : Int) == 0) = false := by simp; omega
          by_cases hlt : r.1 < N
          · have HF : Hid (bestL m xs ys (P.take (k + 1)) = some (N, p)) := by
              show _ = _
              rw [HSn.out, HBs.out (by omega)]
              unfold bstep
              simp only
              rw [HN.out, if_pos hlt]
            have HP6 : Hid (BeSt w2 (N, p) ((((w5.setCell ⟨w2.heap.size, 0, none⟩ (.int .i64 N)).setCell ⟨w2.heap.size, 1, none⟩ (.int .i64 p.i)).setCell ⟨w2.heap.size, 2, none⟩ (.int .i64 p.j)).setCell ⟨w2.heap.size, 3, none⟩ (.string (bs p.cols)))) := HG5.out.put (N, p)
            go_wp2
            go_roundw
            case rel => exact ⟨k + 1, (N, p), by omega, by go_num, HP6.out, fun _ => HF.out⟩
            case measure => simp [intOf]; omega
          · have HF : Hid (bestL m xs ys (P.take (k + 1)) = some r) := by
              show _ = _
              rw [HSn.out, HBs.out (by omega)]
              unfold bstep
              simp only
              rw [HN.out, if_neg hlt]
            go_wp2
            go_roundw
            case rel => exact ⟨k + 1, r, by omega, by go_num, HG5.out, fun _ => HF.out⟩
            case measure => simp [intOf]; omega
      · have HE : Hid (bsE m xs ys = 0 ∧ bsV m xs ys = r) := by
          refine bs_some HS.out ?_
          rw [HPe.out]
          have := HBs.out (by omega)
          rw [List.take_of_length_le (by rw [HPn.out]; omega)] at this
          exact this
        have HB9 : Hid (Q2 w (mdCells m sa sn sc ga gn gc) wr) := HB2.out.next HG.out.bel
        have b0 := cell_block HG.out.best 0 (.int .i64 r.1) rfl
        have b1 := cell_block HG.out.best 1 (.int .i64 r.2.i) rfl
        have b2 := cell_block HG.out.best 2 (.int .i64 r.2.j) rfl
        have b3 := cell_block HG.out.best 3 (.string (bs r.2.cols)) rfl
        have r0 := cell_block HB9.out.res 0 (.int .i64 0) rfl
        have r1 := cell_block HB9.out.res 1 (.int .i64 0) rfl
        have r2 := cell_block HB9.out.res 2 (.int .i64 0) rfl
        have r3 := cell_block HB9.out.res 3 (.string ⟨#[]⟩) rfl
        have rf : ∀ i, wr.frozen? ⟨w.heap.size + 1, i, none⟩ = false := fun i => cellf HB9.out.res i
        clear HMC HCs HOk HBs
        go_wp2
        refine bodyPost_ret (v := .tuple #[.agg #[.int .i64 r.1, .int .i64 r.2.i, .int .i64 r.2.j, .string (bs r.2.cols)], .int .i64 0]) ?_ rfl ?_
        · simp only [results, hres]
          go_simp
        · exact ⟨by rw [HE.out.1, HE.out.2]; rfl, below4 HB9.out.low (by omega) _ _ _ _⟩

end Go.Proofs.Ytegndeefddlccaa
