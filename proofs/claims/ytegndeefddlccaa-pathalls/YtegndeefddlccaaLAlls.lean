/-
  Proved: whatever model and sequences are handed in, PathAlls answers true: all legal paths, in their order, each time; the first best; or what is wrong: what the document's own tell. No condition but that what is handed in can be read.
-/
import Derived.Test.YtegndeefddlccaaQaF
import Derived.Test.YtegndeefddlccaaQaG
import Derived.Test.YtegndeefddlccaaPxO
import Derived.Test.YtegndeefddlccaaRows
import Derived.ProofKit
import Derived.OpenShut
import Derived.ShutString
import Derived.ChangeOld
import Derived.Below
namespace Go.Proofs.Ytegndeefddlccaa
open Go.RowKit

def lstB (m : Md) (xs ys : List Int) : List Pt := if shE m xs ys = 0 then pathsB m xs.length ys.length else []
theorem lst_yes {m : Md} {xs ys : List Int} (h : shE m xs ys = 0) : lstB m xs ys = pathsB m xs.length ys.length := by unfold lstB; rw [if_pos h]
theorem lst_no {m : Md} {xs ys : List Int} (h : shE m xs ys ≠ 0) : lstB m xs ys = [] := by unfold lstB; rw [if_neg h]
theorem lst_few (m : Md) (xs ys : List Int) : (lstB m xs ys).length ≤ 100000000 ∧ ∀ p ∈ lstB m xs ys, p.cols.length ≤ 1000000 := by
  by_cases h : shE m xs ys = 0
  · have h8 := shE_len h
    rw [lst_yes h]
    exact ⟨pathsB_few h8, fun p hp => by have := (pathsB_ok hp).2; omega⟩
  · rw [lst_no h]
    exact ⟨by simp, fun p hp => by cases hp⟩
theorem pts_nil (w : World) (ao : Option Addr) : PtsAt w ao 0 [] := ⟨rfl, Nat.zero_le _, fun p hp => (by cases hp), fun h => by omega⟩
theorem all_uni {m : Md} {xs ys : List Int} {W w' : World} {e : Ending} (h : AllPost m xs ys W e w') : ∃ ao cap, e = .returned (.tuple #[.slice ao (lstB m xs ys).length cap, .int .i64 (shE m xs ys)]) ∧ Below W.heap.size W w' ∧ PtsAt w' ao (lstB m xs ys).length (lstB m xs ys) ∧
    (0 < (lstB m xs ys).length → ∃ g cur, ao = some ⟨g, 0, none⟩ ∧ W.heap.size ≤ g ∧ w'.heap[g]? = some (.cells cur 33 (0, 0)) ∧ (lstB m xs ys).length * 3 ≤ cur.size) := by
  obtain ⟨v, rfl, hb, h1, h2⟩ := h
  obtain ⟨f1, f2⟩ := lst_few m xs ys
  by_cases he : shE m xs ys = 0
  · have h1 := h1 he
    rw [← lst_yes he] at h1
    obtain ⟨ao, cap, rfl⟩ := shape_pts h1
    have hp := pts_own h1 rfl f1 f2
    refine ⟨ao, cap, rfl, hb, hp.1, fun h0 => ?_⟩
    rcases h1.2 with ⟨hv, h00⟩ | ⟨g, cap', cur, hv, hbb, hg, q1, q2, q3, q4⟩
    · omega
    · cases hv
      refine ⟨g, cur, rfl, hbb, hg, ?_⟩
      have : (cur.toList.take ((lstB m xs ys).length * 3)).length = (ptRow (lstB m xs ys)).length := by rw [q4]
      have hl := h1.1
      rw [List.length_take] at this
      simp at this
      omega
  · obtain rfl := h2 he
    rw [lst_no he]
    exact ⟨none, 0, rfl, hb, pts_nil _ _, fun h => by simp at h⟩
theorem all_uniR {m : Md} {xs ys : List Int} {W w' : World} {e : Ending} (h : AllRPost m xs ys W e w') : ∃ ao cap, e = .returned (.tuple #[.slice ao (lstB m xs ys).length cap, .int .i64 (shE m xs ys)]) ∧ Below W.heap.size W w' ∧ PtsAt w' ao (lstB m xs ys).length (lstB m xs ys) ∧ (∀ ad, ao = some ad → W.heap.size ≤ ad.block) := by
  obtain ⟨v, rfl, hb, h1, h2⟩ := h
  by_cases he : shE m xs ys = 0
  · obtain ⟨ao, cap, rfl, hp, hf⟩ := h1 he
    rw [← lst_yes he] at hp ⊢
    exact ⟨ao, cap, rfl, hb, hp, hf⟩
  · obtain rfl := h2 he
    rw [lst_no he]
    exact ⟨none, 0, rfl, hb, pts_nil _ _, fun ad e => by cases e⟩
/-- The first list overwritten so far, and all else as it was. -/
structure OwSt (w3 : World) (g n S : Nat) (wr : World) : Prop where
  fr : Fr (fun b => b = g) w3 wr
  row : ∃ cur : Array Value, cur.size = S ∧ wr.heap[g]? = some (.cells cur 33 (0, 0))
theorem OwSt.cells {w3 : World} {g n S : Nat} {wr : World} (h : OwSt w3 g n S wr) {j : Nat} (hj : j < S) : (∃ v, wr.cell? ⟨g, j, none⟩ = some v) ∧ wr.frozen? ⟨g, j, none⟩ = false := by
  obtain ⟨cur, hs, hg⟩ := h.row
  refine ⟨⟨cur[j]'(by omega), ?_⟩, frozen_of_row wr g j cur 33 hg⟩
  rw [cell_of_row wr g j cur 33 (0, 0) hg, Array.getElem?_eq_getElem (by omega)]
theorem OwSt.put {w3 : World} {g n S : Nat} {wr : World} (h : OwSt w3 g n S wr) (j : Nat) (v : Value) : OwSt w3 g n S (wr.setCell ⟨g, j, none⟩ v) := by
  obtain ⟨cur, hs, hg⟩ := h.row
  refine ⟨h.fr.setCell (.inl rfl) j v, ⟨cur.setIfInBounds j v, by rw [Array.size_setIfInBounds, hs], heap_setCell_same wr g j cur 33 v hg⟩⟩

theorem pts_other {w w' : World} {g : Nat} {bo : Option Addr} {n : Nat} {P : List Pt} (h : PtsAt w bo n P) (hf : Fr (fun b => b = g) w w') (hne : ∀ ad, bo = some ad → ad.block ≠ g) : PtsAt w' bo n P := by
  refine ⟨h.length, h.short, h.cols, fun h0 => ?_⟩
  obtain ⟨gb, off, rfl, hc⟩ := h.cells h0
  have hg : gb ≠ g := hne _ rfl
  refine ⟨gb, off, rfl, fun i p hi => ?_⟩
  obtain ⟨c1, c2, c3⟩ := hc i p hi
  have hbl : w'.heap[gb]? = w.heap[gb]? := hf.block gb (World.block_lt_of_cell? w _ c1) hg
  exact ⟨by rw [World.cell?_of_block (w := w) hbl]; exact c1, by rw [World.cell?_of_block (w := w) hbl]; exact c2, by rw [World.cell?_of_block (w := w) hbl]; exact c3⟩
set_option maxRecDepth 20000 in
set_option maxHeartbeats 4000000 in
theorem alls_walk (m : Md) (sa : Option Addr) (sn sc : Nat) (ga : Option Addr) (gn gc : Nat) (xa : Option Addr) (xn xc : Nat) (xs : List Int) (ya : Option Addr) (yn yc : Nat) (ys : List Int) (w : World) (h : MdIn w m sa sn ga gn) (hx : IntsAt w xa xn xs) (_hxl : xn ≤ 17592186044416) (hy : IntsAt w ya yn ys) (_hyl : yn ≤ 17592186044416) :
    Calls Try.prog 5 #[.agg (mdCells m sa sn sc ga gn gc), .slice xa xn xc, .slice ya yn yc] w fun e w' => e = .returned (.bool true) ∧ Below w.heap.size w w' := by
  have CA : Hid (∀ W, Below w.heap.size w W → Calls Try.prog 16 #[.agg #[.int .i64 m.letters, .slice sa sn sc, .slice ga gn gc, .int .i64 m.mode, .bool m.banded, .int .i64 m.lo, .int .i64 m.hi, .int .i64 m.front, .int .i64 m.back, .int .i64 m.least], .slice xa xn xc, .slice ya yn yc] W fun e w' => AllPost m xs ys W e w') := fun W hb => all_calls m sa sn sc ga gn gc xa xn xc ya yn yc xs ys W (h.at'.below hb) (hx.below hb) (hy.below hb)
  have CR : Hid (∀ W, Below w.heap.size w W → Calls Try.prog 17 #[.agg #[.int .i64 m.letters, .slice sa sn sc, .slice ga gn gc, .int .i64 m.mode, .bool m.banded, .int .i64 m.lo, .int .i64 m.hi, .int .i64 m.front, .int .i64 m.back, .int .i64 m.least], .slice xa xn xc, .slice ya yn yc] W fun e w' => AllRPost m xs ys W e w') := fun W hb => allR_calls m sa sn sc ga gn gc xa xn xc ya yn yc xs ys W (h.at'.below hb) (hx.below hb) (hy.below hb)
  obtain ⟨r, hr⟩ : ∃ r, bsV m xs ys = r := ⟨_, rfl⟩
  obtain ⟨be, hbe⟩ : ∃ b, bsE m xs ys = b := ⟨_, rfl⟩
  have CB : Hid (∀ W, Below w.heap.size w W → Calls Try.prog 19 #[.agg #[.int .i64 m.letters, .slice sa sn sc, .slice ga gn gc, .int .i64 m.mode, .bool m.banded, .int .i64 m.lo, .int .i64 m.hi, .int .i64 m.front, .int .i64 m.back, .int .i64 m.least], .slice xa xn xc, .slice ya yn yc] W fun e w' => e = .returned (.tuple #[.agg #[.int .i64 r.1, .int .i64 r.2.i, .int .i64 r.2.j, .string (bs r.2.cols)], .int .i64 be]) ∧ Below W.heap.size W w') := fun W hb => by
    have := best_calls m sa sn sc ga gn gc xa xn xc ya yn yc xs ys W (h.at'.below hb) (hx.below hb) (hy.below hb)
    unfold BestPost at this
    rw [hr, hbe] at this
    exact this
  have CD : Hid (∀ W, Below w.heap.size w W → Calls Try.prog 20 #[.agg #[.int .i64 m.letters, .slice sa sn sc, .slice ga gn gc, .int .i64 m.mode, .bool m.banded, .int .i64 m.lo, .int .i64 m.hi, .int .i64 m.front, .int .i64 m.back, .int .i64 m.least], .slice xa xn xc, .slice ya yn yc] W fun e w' => e = .returned (.tuple #[.agg #[.int .i64 r.1, .int .i64 r.2.i, .int .i64 r.2.j, .string (bs r.2.cols)], .int .i64 be]) ∧ Below W.heap.size W w') := fun W hb => by
    have := bestR_calls m sa sn sc ga gn gc xa xn xc ya yn yc xs ys W (h.at'.below hb) (hx.below hb) (hy.below hb)
    unfold BestPost at this
    rw [hr, hbe] at this
    exact this
  have HB0 : Hid (B1 w (mdCells m sa sn sc ga gn gc) (w.alloc (.cells (mdCells m sa sn sc ga gn gc) 31))) := ⟨bl1 _ _, hp_at rfl⟩
  clear h hx hy hr hbe
  obtain ⟨P, hP⟩ : ∃ P, lstB m xs ys = P := ⟨_, rfl⟩
  obtain ⟨q, hq⟩ : ∃ q, shE m xs ys = q := ⟨_, rfl⟩
  have HU : Hid (∀ W e w', AllPost m xs ys W e w' → ∃ ao cap, e = .returned (.tuple #[.slice ao P.length cap, .int .i64 q]) ∧ Below W.heap.size W w' ∧ PtsAt w' ao P.length P ∧ (0 < P.length → ∃ g cur, ao = some ⟨g, 0, none⟩ ∧ W.heap.size ≤ g ∧ w'.heap[g]? = some (.cells cur 33 (0, 0)) ∧ P.length * 3 ≤ cur.size)) := by
    rw [← hP, ← hq]; exact fun W e w' h => all_uni h
  have HV : Hid (∀ W e w', AllRPost m xs ys W e w' → ∃ ao cap, e = .returned (.tuple #[.slice ao P.length cap, .int .i64 q]) ∧ Below W.heap.size W w' ∧ PtsAt w' ao P.length P ∧ (∀ ad, ao = some ad → W.heap.size ≤ ad.block)) := by
    rw [← hP, ← hq]; exact fun W e w' h => all_uniR h
  clear hP hq
  obtain ⟨n, hn⟩ : ∃ n, P.length = n := ⟨_, rfl⟩
  rw [hn] at HU HV
  clear hn
  rw [show (mdCells m sa sn sc ga gn gc) = #[.int .i64 m.letters, .slice sa sn sc, .slice ga gn gc, .int .i64 m.mode, .bool m.banded, .int .i64 m.lo, .int .i64 m.hi, .int .i64 m.front, .int .i64 m.back, .int .i64 m.least] from rfl]
  go_enter Try.func5, Try.ntmps5
  go_wp2_with fail
  refine (CA.out _ HB0.out.low).mono ?_
  intro e w1 hp1
  obtain ⟨ao, cap, rfl, hb1, hpt1, hrow⟩ := HU.out _ _ _ hp1
  have HB1 : Hid (B1 w (mdCells m sa sn sc ga gn gc) w1) := HB0.out.next hb1
  have HP1 : Hid (PtsAt w1 ao n P) := hpt1
  have hn8 : n ≤ 100000000 := hpt1.short
  have HRw : Hid (0 < n → ∃ g cur, ao = some ⟨g, 0, none⟩ ∧ w.heap.size + 1 ≤ g ∧ w1.heap[g]? = some (.cells cur 33 (0, 0)) ∧ n * 3 ≤ cur.size) := fun h0 => by
    obtain ⟨g, cur, e1, e2, e3, e4⟩ := hrow h0
    refine ⟨g, cur, e1, ?_, e3, e4⟩
    have : (w.alloc (.cells (mdCells m sa sn sc ga gn gc) 31)).heap.size = w.heap.size + 1 := by simp
    have e2' : (w.alloc (.cells (mdCells m sa sn sc ga gn gc) 31)).heap.size ≤ g := e2
    omega
  clear hp1 hb1 hpt1 hrow HB0
  have c0 := cell_block HB1.out.box 0 (.int .i64 m.letters) rfl; have c1 := cell_block HB1.out.box 1 (.slice sa sn sc) rfl; have c2 := cell_block HB1.out.box 2 (.slice ga gn gc) rfl; have c3 := cell_block HB1.out.box 3 (.int .i64 m.mode) rfl; have c4 := cell_block HB1.out.box 4 (.bool m.banded) rfl; have c5 := cell_block HB1.out.box 5 (.int .i64 m.lo) rfl; have c6 := cell_block HB1.out.box 6 (.int .i64 m.hi) rfl; have c7 := cell_block HB1.out.box 7 (.int .i64 m.front) rfl; have c8 := cell_block HB1.out.box 8 (.int .i64 m.back) rfl; have c9 := cell_block HB1.out.box 9 (.int .i64 m.least) rfl
  go_wp2_with fail
  refine (CR.out _ HB1.out.low).mono ?_
  intro e w2 hp2
  obtain ⟨bo, bcap, rfl, hb2, hpt2, hfr⟩ := HV.out _ _ _ hp2
  have HB2 : Hid (B1 w (mdCells m sa sn sc ga gn gc) w2) := HB1.out.next hb2
  have HP2 : Hid (PtsAt w2 ao n P) := HP1.out.below hb2
  have HQ2 : Hid (PtsAt w2 bo n P) := hpt2
  have HFr : Hid (∀ ad, bo = some ad → w1.heap.size ≤ ad.block) := hfr
  have HRw2 : Hid (0 < n → ∃ g cur, ao = some ⟨g, 0, none⟩ ∧ w.heap.size + 1 ≤ g ∧ g < w1.heap.size ∧ w2.heap[g]? = some (.cells cur 33 (0, 0)) ∧ n * 3 ≤ cur.size) := fun h0 => by
    obtain ⟨g, cur, e1, e2, e3, e4⟩ := HRw.out h0
    have hlt := (Array.getElem?_eq_some_iff.1 e3).1
    exact ⟨g, cur, e1, e2, hlt, by rw [hb2.block g hlt]; exact e3, e4⟩
  clear hp2 hb2 hpt2 hfr HB1 HP1 HRw CR c0 c1 c2 c3 c4 c5 c6 c7 c8 c9
  go_wp2_with fail
  refine (pathsEq_calls ao bo n cap bcap P _ HP2.out HQ2.out).mono ?_
  rintro e w3 ⟨rfl, hb3⟩
  have HB3 : Hid (B1 w (mdCells m sa sn sc ga gn gc) w3) := HB2.out.next hb3
  have HQ3 : Hid (PtsAt w3 bo n P) := HQ2.out.below hb3
  have HRw3 : Hid (0 < n → ∃ g cur, ao = some ⟨g, 0, none⟩ ∧ w.heap.size + 1 ≤ g ∧ g < w1.heap.size ∧ w3.heap[g]? = some (.cells cur 33 (0, 0)) ∧ n * 3 ≤ cur.size) := fun h0 => by
    obtain ⟨g, cur, e1, e2, e3, e4, e5⟩ := HRw2.out h0
    exact ⟨g, cur, e1, e2, e3, by rw [hb3.block g (Array.getElem?_eq_some_iff.1 e4).1]; exact e4, e5⟩
  clear hb3 HB2 HP2 HQ2 HRw2
  obtain ⟨g, S, hg, hg2, hao, hrw⟩ : ∃ g S, w.heap.size + 1 ≤ g ∧ (∀ ad, bo = some ad → ad.block ≠ g) ∧ (0 < n → ao = some ⟨g, 0, none⟩) ∧ (0 < n → n * 3 ≤ S ∧ OwSt w3 g n S w3) := by
    by_cases h0 : 0 < n
    · obtain ⟨g, cur, e1, e2, e3, e4, e5⟩ := HRw3.out h0
      exact ⟨g, cur.size, e2, fun ad e => by have := HFr.out ad e; omega, fun _ => e1, fun _ => ⟨e5, Fr.refl _ _, cur, rfl, e4⟩⟩
    · refine ⟨w.heap.size + 1 + w1.heap.size + (match bo with | none => 0 | some ad => ad.block + 1), 0, by omega, fun ad e => ?_, fun h => absurd h h0, fun h => absurd h h0⟩
      subst e
      simp only
      omega
  have HRw4 : Hid (0 < n → n * 3 ≤ S ∧ OwSt w3 g n S w3) := hrw
  clear hrw HRw3 HFr
  go_wp2
  go_loopw [12] (fun i wr => ∃ k : Nat, k ≤ n ∧ i = .int .i64 k ∧ (0 < n → OwSt w3 g n S wr) ∧ Fr (fun b => b = g) w3 wr) (fun i _ => n - (intOf i).toNat)
  case atStart => exact ⟨0, Nat.zero_le _, rfl, fun h => (HRw4.out h).2, Fr.refl _ _⟩
  case round =>
    obtain ⟨k, hk, rfl, how, hfr⟩ := hrel
    by_cases hkn : k < n
    · obtain rfl := hao (by omega)
      have HO : Hid (OwSt w3 g n S wr) := how (by omega)
      have hS := (HRw4.out (by omega)).1
      obtain ⟨⟨v0, x0⟩, z0⟩ := HO.out.cells (j := k * 3) (by omega)
      obtain ⟨⟨v1, x1⟩, z1⟩ := HO.out.cells (j := k * 3 + 1) (by omega)
      obtain ⟨⟨v2, x2⟩, z2⟩ := HO.out.cells (j := k * 3 + 2) (by omega)
      have HO3 : Hid (OwSt w3 g n S (((wr.setCell ⟨g, k * 3, none⟩ (.int .i64 (-7))).setCell ⟨g, k * 3 + 1, none⟩ (.int .i64 0)).setCell ⟨g, k * 3 + 2, none⟩ (.string ⟨#[]⟩))) := ((HO.out.put _ _).put _ _).put _ _
      clear how hfr hao
      go_wp2
      go_roundw
      case rel => exact ⟨k + 1, by omega, by go_num, fun _ => HO3.out, HO3.out.fr⟩
      case measure => simp [intOf]; omega
    · have HB4 : Hid (B1 w (mdCells m sa sn sc ga gn gc) wr) := ⟨HB3.out.low.trans (hfr.below (fun b (e : b = g) => by omega) HB3.out.low.size), by rw [hfr.block _ (Array.getElem?_eq_some_iff.1 HB3.out.box).1 (by show w.heap.size ≠ g; omega)]; exact HB3.out.box⟩
      have HQ4 : Hid (PtsAt wr bo n P) := pts_other HQ3.out hfr hg2
      clear how hfr hao HRw4 HB3 HQ3 hg2
      have c0 := cell_block HB4.out.box 0 (.int .i64 m.letters) rfl; have c1 := cell_block HB4.out.box 1 (.slice sa sn sc) rfl; have c2 := cell_block HB4.out.box 2 (.slice ga gn gc) rfl; have c3 := cell_block HB4.out.box 3 (.int .i64 m.mode) rfl; have c4 := cell_block HB4.out.box 4 (.bool m.banded) rfl; have c5 := cell_block HB4.out.box 5 (.int .i64 m.lo) rfl; have c6 := cell_block HB4.out.box 6 (.int .i64 m.hi) rfl; have c7 := cell_block HB4.out.box 7 (.int .i64 m.front) rfl; have c8 := cell_block HB4.out.box 8 (.int .i64 m.back) rfl; have c9 := cell_block HB4.out.box 9 (.int .i64 m.least) rfl
      go_wp2_with fail
      refine (CA.out _ HB4.out.low).mono ?_
      intro e w5 hp5
      obtain ⟨co, ccap, rfl, hb5, hpt5, _⟩ := HU.out _ _ _ hp5
      have HB5 : Hid (B1 w (mdCells m sa sn sc ga gn gc) w5) := HB4.out.next hb5
      have HP5 : Hid (PtsAt w5 co n P) := hpt5
      have HQ5 : Hid (PtsAt w5 bo n P) := HQ4.out.below hb5
      clear hp5 hb5 hpt5 HB4 HQ4 CA HU HV c0 c1 c2 c3 c4 c5 c6 c7 c8 c9
      go_wp2_with fail
      refine (pathsEq_calls co bo n ccap bcap P _ HP5.out HQ5.out).mono ?_
      rintro e w6 ⟨rfl, hb6⟩
      have HB6 : Hid (B1 w (mdCells m sa sn sc ga gn gc) w6) := HB5.out.next hb6
      clear hb6 HB5 HP5 HQ5
      have c0 := cell_block HB6.out.box 0 (.int .i64 m.letters) rfl; have c1 := cell_block HB6.out.box 1 (.slice sa sn sc) rfl; have c2 := cell_block HB6.out.box 2 (.slice ga gn gc) rfl; have c3 := cell_block HB6.out.box 3 (.int .i64 m.mode) rfl; have c4 := cell_block HB6.out.box 4 (.bool m.banded) rfl; have c5 := cell_block HB6.out.box 5 (.int .i64 m.lo) rfl; have c6 := cell_block HB6.out.box 6 (.int .i64 m.hi) rfl; have c7 := cell_block HB6.out.box 7 (.int .i64 m.front) rfl; have c8 := cell_block HB6.out.box 8 (.int .i64 m.back) rfl; have c9 := cell_block HB6.out.box 9 (.int .i64 m.least) rfl
      go_wp2_with fail
      refine (CB.out _ HB6.out.low).mono ?_
      rintro e w7 ⟨rfl, hb7⟩
      have HB7 : Hid (B1 w (mdCells m sa sn sc ga gn gc) w7) := HB6.out.next hb7
      clear hb7 HB6 CB c0 c1 c2 c3 c4 c5 c6 c7 c8 c9
      have HB8 : Hid (B1 w (mdCells m sa sn sc ga gn gc) (w7.alloc (.cells #[.int .i64 r.1, .int .i64 r.2.i, .int .i64 r.2.j, .string (bs r.2.cols)] 43))) := HB7.out.next (bl1 _ _)
      have HF8 : Hid ((w7.alloc (.cells #[.int .i64 r.1, .int .i64 r.2.i, .int .i64 r.2.j, .string (bs r.2.cols)] 43)).heap[w7.heap.size]? = some (.cells #[.int .i64 r.1, .int .i64 r.2.i, .int .i64 r.2.j, .string (bs r.2.cols)] 43 (0, 0))) := hp_at rfl
      have c0 := cell_block HB8.out.box 0 (.int .i64 m.letters) rfl; have c1 := cell_block HB8.out.box 1 (.slice sa sn sc) rfl; have c2 := cell_block HB8.out.box 2 (.slice ga gn gc) rfl; have c3 := cell_block HB8.out.box 3 (.int .i64 m.mode) rfl; have c4 := cell_block HB8.out.box 4 (.bool m.banded) rfl; have c5 := cell_block HB8.out.box 5 (.int .i64 m.lo) rfl; have c6 := cell_block HB8.out.box 6 (.int .i64 m.hi) rfl; have c7 := cell_block HB8.out.box 7 (.int .i64 m.front) rfl; have c8 := cell_block HB8.out.box 8 (.int .i64 m.back) rfl; have c9 := cell_block HB8.out.box 9 (.int .i64 m.least) rfl
      go_wp2_with fail
      refine (CD.out _ HB8.out.low).mono ?_
      rintro e w9 ⟨rfl, hb9⟩
      have HF9 : Hid (w9.heap[w7.heap.size]? = some (.cells #[.int .i64 r.1, .int .i64 r.2.i, .int .i64 r.2.j, .string (bs r.2.cols)] 43 (0, 0))) := by
        have hlt := (Array.getElem?_eq_some_iff.1 HF8.out).1
        show _ = _
        rw [hb9.block _ hlt]; exact HF8.out
      have HB9 : Hid (B1 w (mdCells m sa sn sc ga gn gc) w9) := HB8.out.next hb9
      clear hb9 HB8 HF8 HB7 CD c0 c1 c2 c3 c4 c5 c6 c7 c8 c9
      have HFA : Hid (∀ o, (w9.alloc o).heap[w7.heap.size]? = some (.cells #[.int .i64 r.1, .int .i64 r.2.i, .int .i64 r.2.j, .string (bs r.2.cols)] 43 (0, 0))) := fun o => hp_old HF9.out
      have u0 : ∀ o, (w9.alloc o).cell? ⟨w7.heap.size, 0, none⟩ = some (.int .i64 r.1) := fun o => cell_block (HFA.out o) 0 _ rfl
      have u1 : ∀ o, (w9.alloc o).cell? ⟨w7.heap.size, 1, none⟩ = some (.int .i64 r.2.i) := fun o => cell_block (HFA.out o) 1 _ rfl
      have u2 : ∀ o, (w9.alloc o).cell? ⟨w7.heap.size, 2, none⟩ = some (.int .i64 r.2.j) := fun o => cell_block (HFA.out o) 2 _ rfl
      have u3 : ∀ o, (w9.alloc o).cell? ⟨w7.heap.size, 3, none⟩ = some (.string (bs r.2.cols)) := fun o => cell_block (HFA.out o) 3 _ rfl
      have e1 : (q == q) = true := by simp
      have e2 : (be == be) = true := by simp
      have e3 : (r.1 == r.1) = true := by simp
      have e4 : (r.2.i == r.2.i) = true := by simp
      have e5 : (r.2.j == r.2.j) = true := by simp
      have e6 : ((bs r.2.cols).toList == (bs r.2.cols).toList) = true := by simp
      go_wp2
      go_ret
      exact ⟨rfl, below_al HB9.out.low _⟩
theorem ints_in {H : Type} {enc : TypeId × Value → H} {W : World} {v : Value} {d : DataW H} {p : List MemPlace} (h : DataW.Trod enc Try.prog W 0 (fun _ => true) true 29 v d p) (hw : ∀ n ∈ d.weights Try.prog 29, n ≤ reachBytes) :
    ∃ ao len cap l, v.cells.toList = [.slice ao len cap] ∧ len ≤ 17592186044416 ∧ IntsAt W ao len l := by
  obtain ⟨fuel, hf⟩ := h
  exact open_int22 hf hw


namespace pathAlls
open Go.ChangeShapes Go.WideShapes Go.ChangeAt Go.RowKit
open Go.ChangeMaps (open_string shut_string)
theorem own : ownKnob Try.prog.godebug = none := by kernel_rfl
theorem laidOut : laidOutB Try.prog = true := by kernel_rfl
set_option maxRecDepth 100000 in
theorem lifted (os : Os) (started : os.Started) (H : Type) (enc : TypeId × Value → H) :
    ReturnsInHanded {} Try.checked os 5 .any (Rows.pathAllsSpec.pre6 enc Try.prog Try.f5 Rows.pathAllsRow.domain false) (Rows.pathAllsSpec.post enc Try.prog Try.f5 false true false false) := by
  refine returnsInHanded_of_change_sized (C := Try.checked) own started (by kernel_rfl) Try.func5
    (ChangeSpec.witness6 (enc := enc) (C := Try.checked) false ⟨#[], #[.agg #[.int .i64 0, .slice none 0 0, .slice none 0 0, .int .i64 0, .bool false, .int .i64 0, .int .i64 0, .int .i64 0, .int .i64 0, .int .i64 0], .slice none 0 0, .slice none 0 0], []⟩ 8 (by kernel_rfl) (by kernel_rfl) (by kernel_rfl) (by kernel_rfl)) ?_
  intro W base args ds gs before hval0 hW _ hsz0 _
  have hval : ∀ (j : Nat) t v, Try.f5.params[j]? = some t → args[j]? = some v → Value.okWide Try.prog W .any base t v := hval0
  have hsz : (DataW.weightsEach Try.prog (Try.f5.params.toList ++ Rows.pathAllsSpec.plain.varTypes Try.prog) (ds ++ gs)).all (· ≤ reachBytes) = true := hsz0
  have hW' := hW
  obtain ⟨p, q, hA0, hV, rfl, hfz, hnd⟩ := hW
  have hA : DataW.TrodAll enc Try.prog W 0 (fun _ => true) true Try.f5.params.toList args.toList ds p := hA0
  rw [Try.params5] at hA hval hsz
  obtain ⟨v0, vs0, d0, ds0, p0, q0, hargs, rfl, rfl, h0, r0⟩ := trodAll_cons hA
  obtain ⟨v1, vs1, d1, ds1, p1, q1, rfl, rfl, rfl, h1, r1⟩ := trodAll_cons r0
  obtain ⟨v2, vs2, d2, ds2, p2, q2, rfl, rfl, rfl, h2, r2⟩ := trodAll_cons r1
  obtain ⟨rfl, rfl, rfl⟩ := trodAll_nil r2
  obtain rfl : args = #[v0, v1, v2] := by cases args; simp_all
  obtain ⟨rfl, rfl⟩ := trodVars_none hV
  have hw : ∀ (j : Nat) (t : TypeId) (d : DataW H), ([31, 29, 29] ++ Rows.pathAllsSpec.plain.varTypes Try.prog)[j]? = some t → ([d0, d1, d2] ++ [])[j]? = some d → ∀ n ∈ d.weights Try.prog t, n ≤ reachBytes := fun j t d ht hd n hn =>
    of_decide_eq_true (List.all_eq_true.1 hsz _ (DataW.weights_mem_each ht hd n hn))
  obtain ⟨cs0, rfl, hcs0⟩ := okWide_struct Try.underlying31 (hval 0 31 v0 rfl rfl)
  have lt0 : ∀ x ∈ p0, x.block < W.heap.size := by obtain ⟨m, hm⟩ := h0; exact DataW.trod_lt m _ _ _ hm
  obtain ⟨m0, sa0, sn0, sc0, ga0, gn0, gc0, e0, in0⟩ := md_in hcs0 h0 (hw 0 31 d0 rfl rfl)
  subst e0
  have lt1 : ∀ x ∈ p1, x.block < W.heap.size := by obtain ⟨m, hm⟩ := h1; exact DataW.trod_lt m _ _ _ hm
  obtain ⟨ao1, len1, cap1, l1, e1, few1, in1⟩ := ints_in h1 (hw 1 29 d1 rfl rfl)
  obtain ⟨ax1, nx1, cx1, rfl⟩ := okWide_slice Try.underlying29 (hval 1 29 v1 rfl rfl)
  obtain ⟨rfl, rfl, rfl⟩ : ax1 = ao1 ∧ nx1 = len1 ∧ cx1 = cap1 := by have e := e1; simp [Value.cells] at e; exact e
  have lt2 : ∀ x ∈ p2, x.block < W.heap.size := by obtain ⟨m, hm⟩ := h2; exact DataW.trod_lt m _ _ _ hm
  obtain ⟨ao2, len2, cap2, l2, e2, few2, in2⟩ := ints_in h2 (hw 2 29 d2 rfl rfl)
  obtain ⟨ax2, nx2, cx2, rfl⟩ := okWide_slice Try.underlying29 (hval 2 29 v2 rfl rfl)
  obtain ⟨rfl, rfl, rfl⟩ : ax2 = ao2 ∧ nx2 = len2 ∧ cx2 = cap2 := by have e := e2; simp [Value.cells] at e; exact e
  clear hA0 hval0
  refine (alls_walk m0 sa0 sn0 sc0 ga0 gn0 gc0 ax1 nx1 cx1 l1 ax2 nx2 cx2 l2 W in0 in1 few1 in2 few2).mono fun e W' ⟨he, bel⟩ => ?_
  subst he
  exact ⟨_, rfl, _, _, _, [], _, [], hW', trodAll_mk1 (shut_bool Try.underlying4 _), (trodAll_cons_mk (Below.trod laidOut (by kernel_rfl) (of_decide_eq_true (by kernel_rfl)) h0 bel lt0) (trodAll_cons_mk (Below.trod laidOut (by kernel_rfl) (of_decide_eq_true (by kernel_rfl)) h1 bel lt1) (trodAll_cons_mk (Below.trod laidOut (by kernel_rfl) (of_decide_eq_true (by kernel_rfl)) h2 bel lt2) trodAll_mk0))), rfl, bel.frame _, fun h => by cases h⟩
end pathAlls

theorem pathAlls_holds : Rows.PathAllsSaid :=
  OpenClaim.holds_of_wide 5 Try.f5 rfl rfl rfl rfl rfl rfl rfl ⟨rfl, rfl, rfl, rfl, rfl⟩ rfl rfl rfl rfl rfl (by kernel_rfl) Try.func5 (by kernel_rfl)
    (of_decide_eq_true (by kernel_rfl)) (by unfold Func.isWrapper; first | (rw [if_pos (by decide +kernel)]; kernel_rfl) | (rw [if_neg (by decide +kernel)]; exact ⟨rfl, rfl⟩))
    (fun os started H enc _ => pathAlls.lifted os started H enc)

end Go.Proofs.Ytegndeefddlccaa
