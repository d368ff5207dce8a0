/-
  BoundGrows is proved for every input: longer sequences have the wider range. Its condition is the row's own: what is handed in reads as data.
-/
import Derived.Test.YtaicppkhdfiokaaRows
import Derived.Test.YtaicppkhdfiokaaBdI
import Derived.Test.YtaicppkhdfiokaaBdO
import Derived.WalkKit
import Derived.ProofKit
import Derived.OpenShut
import Derived.ShutString
import Derived.ChangeOld
import Derived.Below
namespace Go.Proofs.Ytaicppkhdfiokaa
open Go.RowKit Go.Deep

theorem ran_parts {m : Md} {r c : Int} (h : ranE m r c = 0) : rightM m = true ∧ 0 ≤ r ∧ 0 ≤ c ∧ max r c ≤ most (wid m) := by
  unfold ranE at h
  cases hr : rightM m
  · rw [hr] at h; simp at h
  · rw [hr, if_pos rfl] at h
    refine ⟨rfl, ?_⟩
    by_cases h1 : r < 0 ∨ c < 0
    · rw [if_pos h1] at h; omega
    · rw [if_neg h1] at h
      by_cases h2 : most (wid m) < max r c
      · rw [if_pos h2] at h; omega
      · omega
theorem ran_grows {m : Md} {r c : Int} (h : ranE m r c = 0) {x y : Int} (hx : r ≤ x) (hy : c ≤ y) :
    ranE m x y = 170 ∨ (ranE m x y = 0 ∧ ranL m x y ≤ ranL m r c ∧ ranH m r c ≤ ranH m x y) := by
  obtain ⟨hr, h1, h2, h3⟩ := ran_parts h
  by_cases h4 : most (wid m) < max x y
  · exact Or.inl (ran_long hr (by omega) (by omega) h4)
  · have h5 := ran_ok hr (r := x) (c := y) (by omega) (by omega) (by omega)
    refine Or.inr ⟨h5, ?_⟩
    have hw := (rightM_out hr).wid
    unfold ranL ranH
    rw [h, h5, if_pos rfl, if_pos rfl, if_pos rfl, if_pos rfl]
    have a := Int.mul_le_mul_of_nonneg_right (show -(x + y + 2) ≤ -(r + c + 2) by omega) (show 0 ≤ wid m by omega)
    have b := Int.mul_le_mul_of_nonneg_right (show min r c ≤ min x y by omega) (show 0 ≤ wid m by omega)
    exact ⟨a, b⟩

set_option maxHeartbeats 1000000 in
theorem grows_walk (m : Md) (sa : Option Addr) (sn sc : Nat) (ga : Option Addr) (gn gc : Nat) (r c k : Int) (w : World) (h : MdIn w m sa sn ga gn) :
    Calls Try.prog 6 #[.agg (mdCells m sa sn sc ga gn gc), .int .i64 r, .int .i64 c, .int .i64 k] w fun e w' => e = .returned (.bool true) ∧ Below w.heap.size w w' := by
  have HM : Hid (MdAt w m sa sn ga gn) := h.at'
  clear h
  rw [show mdCells m sa sn sc ga gn gc = #[.int .i64 m.letters, .slice sa sn sc, .slice ga gn gc, .int .i64 m.mode, .bool m.banded, .int .i64 m.lo, .int .i64 m.hi, .int .i64 m.front, .int .i64 m.back, .int .i64 m.least] from rfl]
  go_enter Try.func6, Try.ntmps6
  go_wp2_with fail
  refine (awake_calls _).mono ?_
  rintro e w1 ⟨rfl, hb⟩
  have HX : Hid (Bx w (mdCells m sa sn sc ga gn gc) w1) := (Bx.start w _).next hb
  clear hb
  have c0 := HX.out.cell 0 (.int .i64 m.letters) rfl
  have c1 := HX.out.cell 1 (.slice sa sn sc) rfl
  have c2 := HX.out.cell 2 (.slice ga gn gc) rfl
  have c3 := HX.out.cell 3 (.int .i64 m.mode) rfl
  have c4 := HX.out.cell 4 (.bool m.banded) rfl
  have c5 := HX.out.cell 5 (.int .i64 m.lo) rfl
  have c6 := HX.out.cell 6 (.int .i64 m.hi) rfl
  have c7 := HX.out.cell 7 (.int .i64 m.front) rfl
  have c8 := HX.out.cell 8 (.int .i64 m.back) rfl
  have c9 := HX.out.cell 9 (.int .i64 m.least) rfl
  go_wp2_with fail
  refine (range_calls m sa sn sc ga gn gc r c _ (HM.out.below HX.out.low)).mono ?_
  rintro e w2 ⟨rfl, hb⟩
  have HX2 : Hid (Bx w (mdCells m sa sn sc ga gn gc) w2) := HX.out.next hb
  clear hb HX c0 c1 c2 c3 c4 c5 c6 c7 c8 c9
  by_cases h0 : ranE m r c = 0
  · have HP := ran_parts h0
    have HG : Hid (∀ x y, r ≤ x → c ≤ y → ranE m x y = 170 ∨ (ranE m x y = 0 ∧ ranL m x y ≤ ranL m r c ∧ ranH m r c ≤ ranH m x y)) := fun x y hx hy => ran_grows h0 hx hy
    rw [h0]
    clear h0
    have hm := most_bd _ (rightM_out HP.1).wid.1 (rightM_out HP.1).wid.2
    obtain ⟨_, hr0, hc0, hmx⟩ := HP
    have hr1 : r ≤ 65536 := by omega
    have hc1 : c ≤ 65536 := by omega
    clear hmx hm
    by_cases h1 : k < 0
    · generalize ranL m r c = x1
      generalize ranH m r c = x2
      go_wp2
      go_ret
      exact ⟨rfl, HX2.out.low⟩
    by_cases h2 : 65536 < k
    · generalize ranL m r c = x1
      generalize ranH m r c = x2
      go_wp2
      go_ret
      exact ⟨rfl, HX2.out.low⟩
    have G1 := HG.out (r + k) c (by omega) (by omega)
    have G2 := HG.out r (c + k) (by omega) (by omega)
    clear HG
    have HG1 : Hid (ranE m (r + k) c = 170 ∨ (ranE m (r + k) c = 0 ∧ ranL m (r + k) c ≤ ranL m r c ∧ ranH m r c ≤ ranH m (r + k) c)) := G1
    have HG2 : Hid (ranE m r (c + k) = 170 ∨ (ranE m r (c + k) = 0 ∧ ranL m r (c + k) ≤ ranL m r c ∧ ranH m r c ≤ ranH m r (c + k))) := G2
    clear G1 G2
    have c0 := HX2.out.cell 0 (.int .i64 m.letters) rfl
    have c1 := HX2.out.cell 1 (.slice sa sn sc) rfl
    have c2 := HX2.out.cell 2 (.slice ga gn gc) rfl
    have c3 := HX2.out.cell 3 (.int .i64 m.mode) rfl
    have c4 := HX2.out.cell 4 (.bool m.banded) rfl
    have c5 := HX2.out.cell 5 (.int .i64 m.lo) rfl
    have c6 := HX2.out.cell 6 (.int .i64 m.hi) rfl
    have c7 := HX2.out.cell 7 (.int .i64 m.front) rfl
    have c8 := HX2.out.cell 8 (.int .i64 m.back) rfl
    have c9 := HX2.out.cell 9 (.int .i64 m.least) rfl
    go_wp2_with fail
    refine (range_calls m sa sn sc ga gn gc (r + k) c _ (HM.out.below HX2.out.low)).mono ?_
    rintro e w3 ⟨rfl, hb⟩
    have HX3 : Hid (Bx w (mdCells m sa sn sc ga gn gc) w3) := HX2.out.next hb
    clear hb HX2 c0 c1 c2 c3 c4 c5 c6 c7 c8 c9
    have c0 := HX3.out.cell 0 (.int .i64 m.letters) rfl
    have c1 := HX3.out.cell 1 (.slice sa sn sc) rfl
    have c2 := HX3.out.cell 2 (.slice ga gn gc) rfl
    have c3 := HX3.out.cell 3 (.int .i64 m.mode) rfl
    have c4 := HX3.out.cell 4 (.bool m.banded) rfl
    have c5 := HX3.out.cell 5 (.int .i64 m.lo) rfl
    have c6 := HX3.out.cell 6 (.int .i64 m.hi) rfl
    have c7 := HX3.out.cell 7 (.int .i64 m.front) rfl
    have c8 := HX3.out.cell 8 (.int .i64 m.back) rfl
    have c9 := HX3.out.cell 9 (.int .i64 m.least) rfl
    go_wp2_with fail
    refine (range_calls m sa sn sc ga gn gc r (c + k) _ (HM.out.below HX3.out.low)).mono ?_
    rintro e w4 ⟨rfl, hb⟩
    have HB : Hid (Below w.heap.size w w4) := (HX3.out.next hb).low
    clear hb HX3 c0 c1 c2 c3 c4 c5 c6 c7 c8 c9 HM
    have G1 := HG1.out
    have G2 := HG2.out
    clear HG1 HG2
    generalize ranL m r c = a1 at *
    generalize ranH m r c = a2 at *
    generalize ranL m (r + k) c = b1 at *
    generalize ranH m (r + k) c = b2 at *
    generalize ranE m (r + k) c = b3 at *
    generalize ranL m r (c + k) = d1 at *
    generalize ranH m r (c + k) = d2 at *
    generalize ranE m r (c + k) = d3 at *
    have e1 : ((170 : Int) == 170) = true := rfl
    have e2 : ((0 : Int) == 170) = false := rfl
    have e3 : ((0 : Int) == 0) = true := rfl
    rcases G1 with rfl | ⟨rfl, g1, g2⟩ <;> rcases G2 with rfl | ⟨rfl, g3, g4⟩ <;> (go_wp2; go_ret; exact ⟨rfl, HB.out⟩)
  · have hb0 : (ranE m r c != 0) = true := by simpa using h0
    generalize ranL m r c = x1
    generalize ranH m r c = x2
    generalize ranE m r c = x3 at *
    go_wp2
    go_ret
    exact ⟨rfl, HX2.out.low⟩

namespace boundGrows
open Go.ChangeShapes Go.WideShapes Go.ChangeAt Go.RowKit
open Go.ChangeMaps (open_string shut_string)
theorem own : ownKnob Try.prog.godebug = none := by kernel_rfl
theorem laidOut : laidOutB Try.prog = true := by kernel_rfl
set_option maxRecDepth 100000 in
theorem lifted (os : Os) (started : os.Started) (H : Type) (enc : TypeId × Value → H) :
    ReturnsInHanded {} Try.checked os 6 .any (Rows.boundGrowsSpec.pre6 enc Try.prog Try.f6 Rows.boundGrowsRow.domain false) (Rows.boundGrowsSpec.post enc Try.prog Try.f6 false true false false) := by
  refine returnsInHanded_of_change_sized (C := Try.checked) own started (by kernel_rfl) Try.func6
    (ChangeSpec.witness6 (enc := enc) (C := Try.checked) false ⟨#[], #[.agg #[.int .i64 0, .slice none 0 0, .slice none 0 0, .int .i64 0, .bool false, .int .i64 0, .int .i64 0, .int .i64 0, .int .i64 0, .int .i64 0], .int .i64 0, .int .i64 0, .int .i64 0], []⟩ 8 (by kernel_rfl) (by kernel_rfl) (by kernel_rfl) (by kernel_rfl)) ?_
  intro W base args ds gs before hval0 hW _ hsz0 _
  have hval : ∀ (j : Nat) t v, Try.f6.params[j]? = some t → args[j]? = some v → Value.okWide Try.prog W .any base t v := hval0
  have hsz : (DataW.weightsEach Try.prog (Try.f6.params.toList ++ Rows.boundGrowsSpec.plain.varTypes Try.prog) (ds ++ gs)).all (· ≤ reachBytes) = true := hsz0
  have hW' := hW
  obtain ⟨p, q, hA0, hV, rfl, hfz, hnd⟩ := hW
  have hA : DataW.TrodAll enc Try.prog W 0 (fun _ => true) true Try.f6.params.toList args.toList ds p := hA0
  rw [Try.params6] at hA hval hsz
  obtain ⟨v0, vs0, d0, ds0, p0, q0, hargs, rfl, rfl, h0, r0⟩ := trodAll_cons hA
  obtain ⟨v1, vs1, d1, ds1, p1, q1, rfl, rfl, rfl, h1, r1⟩ := trodAll_cons r0
  obtain ⟨v2, vs2, d2, ds2, p2, q2, rfl, rfl, rfl, h2, r2⟩ := trodAll_cons r1
  obtain ⟨v3, vs3, d3, ds3, p3, q3, rfl, rfl, rfl, h3, r3⟩ := trodAll_cons r2
  obtain ⟨rfl, rfl, rfl⟩ := trodAll_nil r3
  obtain rfl : args = #[v0, v1, v2, v3] := by cases args; simp_all
  obtain ⟨rfl, rfl⟩ := trodVars_none hV
  have hw : ∀ (j : Nat) (t : TypeId) (d : DataW H), ([25, 3, 3, 3] ++ Rows.boundGrowsSpec.plain.varTypes Try.prog)[j]? = some t → ([d0, d1, d2, d3] ++ [])[j]? = some d → ∀ n ∈ d.weights Try.prog t, n ≤ reachBytes := fun j t d ht hd n hn =>
    of_decide_eq_true (List.all_eq_true.1 hsz _ (DataW.weights_mem_each ht hd n hn))
  obtain ⟨cs0, rfl, hcs0⟩ := okWide_struct Try.underlying25 (hval 0 25 v0 rfl rfl)
  have lt0 : ∀ x ∈ p0, x.block < W.heap.size := by obtain ⟨m, hm⟩ := h0; exact DataW.trod_lt m _ _ _ hm
  obtain ⟨m0, sa0, sn0, sc0, ga0, gn0, gc0, e0, in0⟩ := md_in hcs0 h0 (hw 0 25 d0 rfl rfl)
  subst e0
  obtain ⟨a1, rfl, rfl, rfl, w1⟩ := open_int Try.underlying3 (hval 1 3 v1 rfl rfl) h1
  obtain ⟨a2, rfl, rfl, rfl, w2⟩ := open_int Try.underlying3 (hval 2 3 v2 rfl rfl) h2
  obtain ⟨a3, rfl, rfl, rfl, w3⟩ := open_int Try.underlying3 (hval 3 3 v3 rfl rfl) h3
  clear hA0 hval0
  refine (grows_walk m0 sa0 sn0 sc0 ga0 gn0 gc0 a1 a2 a3 W in0).mono fun e W' ⟨he, bel⟩ => ?_
  subst he
  exact ⟨_, rfl, _, _, _, [], _, [], hW', trodAll_mk1 (shut_bool Try.underlying4 _), (trodAll_cons_mk (Below.trod laidOut (by kernel_rfl) (of_decide_eq_true (by kernel_rfl)) h0 bel lt0) (trodAll_cons_mk (shut_int Try.underlying3 w1) (trodAll_cons_mk (shut_int Try.underlying3 w2) (trodAll_cons_mk (shut_int Try.underlying3 w3) trodAll_mk0)))), rfl, bel.frame _, fun h => by cases h⟩
end boundGrows

theorem boundGrows_holds : Rows.BoundGrowsSaid :=
  OpenClaim.holds_of_wide 6 Try.f6 rfl rfl rfl rfl rfl rfl rfl ⟨rfl, rfl, rfl, rfl, rfl⟩ rfl rfl rfl rfl rfl (by kernel_rfl) Try.func6 (by kernel_rfl)
    (of_decide_eq_true (by kernel_rfl)) (by unfold Func.isWrapper; first | (rw [if_pos (by decide +kernel)]; kernel_rfl) | (rw [if_neg (by decide +kernel)]; exact ⟨rfl, rfl⟩))
    (fun os started H enc _ => boundGrows.lifted os started H enc)

end Go.Proofs.Ytaicppkhdfiokaa
