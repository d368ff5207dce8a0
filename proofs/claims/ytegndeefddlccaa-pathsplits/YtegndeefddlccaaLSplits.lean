/-
  Proved: whatever two lengths, pieces and piece more are handed in, PathSplits answers true; no condition but that what is handed in can be read.
-/
import Derived.Test.YtegndeefddlccaaPsB
import Derived.Test.YtegndeefddlccaaPxO
import Derived.Test.YtegndeefddlccaaRows
import Derived.ProofKit
import Derived.OpenShut
import Derived.ShutString
import Derived.ChangeOld
import Derived.Below
import Derived.BigRegion
import Derived.Deep.RegionHeld3
import Derived.Deep.RegionLaw
namespace Go.Proofs.Ytegndeefddlccaa
open Go.RowKit

structure M1 (w : World) (a x : Int) (wr : World) : Prop where
  low : Below w.heap.size w wr
  box : wr.heap[w.heap.size]? = some (.cells #[.int .i64 a, .int .i64 x] 50 (0, 0))
theorem M1.next {w : World} {a x : Int} {wr w2 : World} (h : M1 w a x wr) (hb : Below wr.heap.size wr w2) : M1 w a x w2 :=
  ⟨h.low.trans (hb.mono h.low.size), (Fr.of_below (O := fun _ => False) hb).heap h.box (fun h => h)⟩
theorem M1.cells {w : World} {a x : Int} {wr : World} (h : M1 w a x wr) : wr.cell? ⟨w.heap.size, 0, none⟩ = some (.int .i64 a) ∧ wr.cell? ⟨w.heap.size, 1, none⟩ = some (.int .i64 x) := ⟨cell_block h.box 0 _ rfl, cell_block h.box 1 _ rfl⟩
theorem gps_in2 {H : Type} {enc : TypeId × Value → H} {W : World} {v : Value} {d : DataW H} {p : List MemPlace} (h : DataW.Trod enc Try.prog W 0 (fun _ => true) true 22 v d p) (hw : ∀ n ∈ d.weights Try.prog 22, n ≤ reachBytes) :
    ∃ ao len cap l, v.cells.toList = [.slice ao len cap] ∧ len ≤ 8796093021952 ∧ GpsAt W ao len l := by
  obtain ⟨ao, len, cap, l, he, _, hg⟩ := gps_in h hw
  refine ⟨ao, len, cap, l, he, ?_, hg⟩
  obtain ⟨fuel, hf⟩ := h
  rcases DataW.trod_slice Try.underlying22 hf with ⟨h0, _⟩ | ⟨a, len', cap', elems, rest, n, hn, h1, h2, hb, hl, hm, hlen, hel, hsp, _⟩
  · rw [he] at h0
    simp at h0
    omega
  · rw [he] at h1
    simp at h1
    obtain ⟨_, rfl, _⟩ := h1
    simp only [Prod.mk.injEq] at h2
    obtain ⟨rfl, _⟩ := h2
    have := hw ((elems.length + rest.length) * 16) (by simp [DataW.weights, Try.underlying22, b32])
    unfold reachBytes at this
    omega
set_option maxRecDepth 20000 in
theorem gap_in {H : Type} {enc : TypeId × Value → H} {W : World} {cs : Array Value} {d : DataW H} {p : List MemPlace} (hcs : cs.size = Try.prog.cellsOf 50) (h : DataW.Trod enc Try.prog W 0 (fun _ => true) true 50 (.agg cs) d p) :
    ∃ (a x : Int), cs = #[.int .i64 a, .int .i64 x] := by
  obtain ⟨fuel, h⟩ := h
  obtain ⟨xs, k, hk, hxy, _, hxl, hf⟩ := DataW.trod_struct Try.underlying50 h
  have hlen : cs.toList.length = 2 := by rw [Array.length_toList, hcs]; kernel_rfl
  rw [show (Value.agg cs).cells.toList = cs.toList from rfl] at hf
  obtain ⟨cl, hcl⟩ : ∃ cl, cs.toList = cl := ⟨_, rfl⟩
  rw [hcl] at hf hlen
  match cl, hlen with
  | [v0, v1], _ =>
    have g0 := hf 0 _ rfl
    have g1 := hf 1 _ rfl
    match xs, hxl with
    | [y0, y1], _ =>
      simp [c3] at g0 g1
      obtain ⟨s0, e0, _, z0⟩ := DataW.trod_int Try.underlying3 g0
      obtain ⟨s1, e1, _, z1⟩ := DataW.trod_int Try.underlying3 g1
      simp at e0 e1
      subst e0; subst e1
      exact ⟨s0, s1, Array.toList_inj.1 hcl⟩
set_option maxRecDepth 20000 in
set_option maxHeartbeats 4000000 in
theorem splits_walk (k l : Int) (ao : Option Addr) (len cap : Nat) (gs : List (Int × Int)) (a x : Int) (w : World) (h : GpsAt w ao len gs) (hl : len ≤ 8796093021952) :
    Calls Try.prog 8 #[.int .i64 k, .int .i64 l, .slice ao len cap, .agg #[.int .i64 a, .int .i64 x]] w fun e w' => e = .returned (.bool true) ∧ Below w.heap.size w w' := by
  obtain ⟨i50, hi, hz0, hz1, hz2⟩ := info_parts info50
  have hgl := h.length
  have HM : Hid (GpsAt w ao len gs) := h
  clear h
  have HB0 : Hid (M1 w a x (w.alloc (.cells #[.int .i64 a, .int .i64 x] 50))) := ⟨bl1 _ _, hp_at rfl⟩
  have HQ1 : Hid (costE k gs = 0 → costE k (gs ++ [(a, x)]) = 0 → costV k (gs ++ [(a, x)]) ≤ costV k gs) := fun h1 h2 => cost_more h1 h2
  have HQ2 : Hid (costE k gs = 0 → costE l gs = 0 → costE (k + l) gs = 0 → costV (k + l) gs ≤ costV k gs + costV l gs ∧ (0 ≤ costV k gs ∧ costV k gs ≤ 2305843009213693952) ∧ (0 ≤ costV l gs ∧ costV l gs ≤ 2305843009213693952)) := fun h1 h2 h3 => cost_split h1 h2 h3
  obtain ⟨e1, he1⟩ : ∃ r, costE k gs = r := ⟨_, rfl⟩
  obtain ⟨e2, he2⟩ : ∃ r, costE l gs = r := ⟨_, rfl⟩
  obtain ⟨e3, he3⟩ : ∃ r, costE (k + l) gs = r := ⟨_, rfl⟩
  obtain ⟨e4, he4⟩ : ∃ r, costE k (gs ++ [(a, x)]) = r := ⟨_, rfl⟩
  obtain ⟨v1, hv1⟩ : ∃ r, costV k gs = r := ⟨_, rfl⟩
  obtain ⟨v2, hv2⟩ : ∃ r, costV l gs = r := ⟨_, rfl⟩
  obtain ⟨v3, hv3⟩ : ∃ r, costV (k + l) gs = r := ⟨_, rfl⟩
  obtain ⟨v4, hv4⟩ : ∃ r, costV k (gs ++ [(a, x)]) = r := ⟨_, rfl⟩
  have C1 : Hid (∀ W, Below w.heap.size w W → Calls Try.prog 10 #[.int .i64 k, .slice ao len cap] W fun e w' => e = .returned (.tuple #[.int .i64 v1, .int .i64 e1]) ∧ Below W.heap.size W w') := fun W hb => by rw [← hv1, ← he1]; exact cost_calls _ _ _ _ _ _ (HM.out.below hb)
  have C2 : Hid (∀ W, Below w.heap.size w W → Calls Try.prog 10 #[.int .i64 l, .slice ao len cap] W fun e w' => e = .returned (.tuple #[.int .i64 v2, .int .i64 e2]) ∧ Below W.heap.size W w') := fun W hb => by rw [← hv2, ← he2]; exact cost_calls _ _ _ _ _ _ (HM.out.below hb)
  have C3 : Hid (∀ W, Below w.heap.size w W → Calls Try.prog 10 #[.int .i64 (k + l), .slice ao len cap] W fun e w' => e = .returned (.tuple #[.int .i64 v3, .int .i64 e3]) ∧ Below W.heap.size W w') := fun W hb => by rw [← hv3, ← he3]; exact cost_calls _ _ _ _ _ _ (HM.out.below hb)
  have C4 : Hid (∀ W ao6 cap6, GpsAt W ao6 (len + 1) (gs ++ [(a, x)]) → Calls Try.prog 10 #[.int .i64 k, .slice ao6 (len + 1) cap6] W fun e w' => e = .returned (.tuple #[.int .i64 v4, .int .i64 e4]) ∧ Below W.heap.size W w') := fun W ao6 cap6 hb => by rw [← hv4, ← he4]; exact cost_calls _ _ _ _ _ _ hb
  rw [he1, he4, hv1, hv4] at HQ1
  rw [he1, he2, he3, hv1, hv2, hv3] at HQ2
  clear he1 he2 he3 he4 hv1 hv2 hv3 hv4
  go_enter Try.func8, Try.ntmps8
  go_wp2_with fail
  refine (awake_calls _).mono ?_
  rintro e w1 ⟨rfl, hb1⟩
  have HB1 : Hid (M1 w a x w1) := HB0.out.next hb1
  clear hb1 HB0
  by_cases h1 : k < 1
  · go_wp2
    go_ret
    exact ⟨rfl, HB1.out.low⟩
  by_cases h2 : 65536 < k
  · go_wp2
    go_ret
    exact ⟨rfl, HB1.out.low⟩
  by_cases h3 : l < 1
  · go_wp2
    go_ret
    exact ⟨rfl, HB1.out.low⟩
  by_cases h4 : 65536 < l
  · go_wp2
    go_ret
    exact ⟨rfl, HB1.out.low⟩
  go_wp2_with fail
  refine (C1.out _ HB1.out.low).mono ?_
  rintro e w2 ⟨rfl, hb2⟩
  have HB2 : Hid (M1 w a x w2) := HB1.out.next hb2
  clear hb2 HB1
  go_wp2_with fail
  refine (C2.out _ HB2.out.low).mono ?_
  rintro e w3 ⟨rfl, hb3⟩
  have HB3 : Hid (M1 w a x w3) := HB2.out.next hb3
  clear hb3 HB2
  go_wp2_with fail
  refine (C3.out _ HB3.out.low).mono ?_
  rintro e w4 ⟨rfl, hb4⟩
  have HB4 : Hid (M1 w a x w4) := HB3.out.next hb4
  clear hb4 HB3 C1 C2 C3
  have HG4 : Hid (GpsAt w4 ao len gs) := HM.out.below HB4.out.low
  have c0 := HB4.out.cells.1
  have c1 := HB4.out.cells.2
  have hlt := (Array.getElem?_eq_some_iff.1 HB4.out.box).1
  have HSk : Hid (∀ V, Below w4.heap.size w4 V → V.cell? ⟨w.heap.size, 0, none⟩ = some (.int .i64 a) ∧ V.cell? ⟨w.heap.size, 1, none⟩ = some (.int .i64 x)) := fun V hb => (HB4.out.next hb).cells
  have A1 : Hid (R1 w4 (w4.drew.alloc (.cells #[] 50)) w4.heap.size ao len gs) := r1_first HG4.out
  have A2 : Hid (R1 w4 ((w4.drew.alloc (.cells #[] 50)).alloc (.cells #[.int .i64 a, .int .i64 x] 50)) w4.heap.size ao len gs) := r1_then HG4.out _
  have A3 : Hid (R1 w4 ((w4.drew.alloc (.cells #[.int .i64 a, .int .i64 x] 50)).alloc (.cells #[] 50)) (w4.heap.size + 1) ao len gs) := r1_last HG4.out _
  have D2 : Hid (((w4.drew.alloc (.cells #[] 50)).alloc (.cells #[.int .i64 a, .int .i64 x] 50)).heap[w4.heap.size + 1]? = some (.cells #[.int .i64 a, .int .i64 x] 50 (0, 0))) := hp_at (by simp)
  have D3 : Hid (((w4.drew.alloc (.cells #[.int .i64 a, .int .i64 x] 50)).alloc (.cells #[] 50)).heap[w4.heap.size]? = some (.cells #[.int .i64 a, .int .i64 x] 50 (0, 0))) := hp_old (hp_at rfl)
  have L3 : Hid (Below w4.heap.size w4 (w4.drew.alloc (.cells #[.int .i64 a, .int .i64 x] 50))) := (Below.refl _ w4).drew.alloc (Nat.le_refl _) _
  have hlm : 0 + len ≤ maxLen := by unfold maxLen; omega
  have hlm1 : len + 1 ≤ maxLen := by unfold maxLen; omega
  have hlb : (0 + len) * 16 ≤ 140737488355328 := by omega
  have hlb1 : (len + 1) * 16 ≤ 140737488355328 := by omega
  go_wp2_with fail
  go_region_held3 (fun W => W.cell? ⟨w.heap.size, 0, none⟩ = some (.int .i64 a) ∧ W.cell? ⟨w.heap.size, 1, none⟩ = some (.int .i64 x))
    (first | with_reducible assumption | exact ⟨by assumption, by assumption⟩ | exact HSk.out _ A1.out.low | exact HSk.out _ A2.out.low | exact HSk.out _ A3.out.low | exact HSk.out _ L3.out | exact HSk.out _ (by assumption) | exact HSk.out _ (Below.alloc (by assumption) (by assumption) _))
    (first
      | (refine step_append_opt rfl (.tmp 55) (.tmp 56) 22 rfl w4.heap.size 50 i50 _ 2 16 Try.underlying22 hi hz0 hz1 hz2 rfl (by decide) _ 0 [] (by simp [Act.eval]) A1.out.own ao len cap (gapVals gs) (by simp [Act.eval]) A1.out.src hlm hlb A1.out.big ?_
         intro v5 w5 ho hg
         have H5 := A1.out.next ho hg
         have b5 := H5.low
         have g5 := H5.big
         obtain ⟨ao5, cap5, rfl⟩ := shape_own H5.own
         have H6 : Hid (R3 w4 (w5.alloc (.cells #[.int .i64 a, .int .i64 x] 50)) w5.heap.size (.slice ao5 len cap5) len gs a x) := H5.fresh a x
         clear ho hg H5)
      | (refine step_append_opt rfl (.tmp 55) (.tmp 56) 22 rfl w4.heap.size 50 i50 _ 2 16 Try.underlying22 hi hz0 hz1 hz2 rfl (by decide) _ 0 [] (by simp [Act.eval]) A2.out.own ao len cap (gapVals gs) (by simp [Act.eval]) A2.out.src hlm hlb A2.out.big ?_
         intro v5 w5 ho hg
         have H5 := A2.out.next ho hg
         have b5 := H5.low
         have g5 := H5.big
         obtain ⟨ao5, cap5, rfl⟩ := shape_own H5.own
         have H6 : Hid (R3 w4 w5 (w4.heap.size + 1) (.slice ao5 len cap5) len gs a x) := H5.held (by omega) D2.out
         clear ho hg H5)
      | (refine step_append_opt rfl (.tmp 55) (.tmp 56) 22 rfl w4.heap.size 50 i50 _ 2 16 Try.underlying22 hi hz0 hz1 hz2 rfl (by decide) _ 0 [] (by simp [Act.eval]) A3.out.own ao len cap (gapVals gs) (by simp [Act.eval]) A3.out.src hlm hlb A3.out.big ?_
         intro v5 w5 ho hg
         have H5 := A3.out.next ho hg
         have b5 := H5.low
         have g5 := H5.big
         obtain ⟨ao5, cap5, rfl⟩ := shape_own H5.own
         have H6 : Hid (R3 w4 w5 w4.heap.size (.slice ao5 len cap5) len gs a x) := H5.held (by omega) D3.out
         clear ho hg H5)
      | (refine step_append_opt rfl (.tmp 57) (.tmp 59) 22 rfl w4.heap.size 50 i50 _ 2 16 Try.underlying22 hi hz0 hz1 hz2 rfl (by decide) _ len (gapVals gs) (by simp [Act.eval]) H6.out.own _ 1 1 [.int .i64 a, .int .i64 x] (by simp [Act.eval]) H6.out.src hlm1 hlb1 H6.out.big ?_
         intro v6 w6 ho hg
         obtain ⟨b6, ao6, cap6, hv6, hG6⟩ := H6.out.next ho hg hgl hlm1
         subst hv6
         have HG6 : Hid (GpsAt w6 ao6 (len + 1) (gs ++ [(a, x)])) := hG6
         clear ho hg hG6 H6))
  all_goals (
    have HL6 : Hid (Below w.heap.size w w6) := HB4.out.low.trans (b6.mono HB4.out.low.size)
    clear b6 b5 g5 A1 A2 A3 D2 D3 L3 HSk c0 c1 hlm hlm1 hlb hlb1 HG4)
  all_goals (
    go_wp2_with fail
    refine (C4.out _ _ _ HG6.out).mono ?_
    rintro e w7 ⟨rfl, hb7⟩
    have HL7 : Hid (Below w.heap.size w w7) := HL6.out.trans (hb7.mono HL6.out.size)
    clear hb7 HL6
    by_cases z1 : e1 = 0
    · subst z1
      by_cases z4 : e4 = 0
      · subst z4
        have hle := HQ1.out rfl rfl
        by_cases z2 : e2 = 0
        · subst z2
          by_cases z3 : e3 = 0
          · subst z3
            obtain ⟨q1, q2, q3⟩ := HQ2.out rfl rfl rfl
            go_wp2
            go_ret
            exact ⟨rfl, HL7.out⟩
          · have z3b : (e3 != 0) = true := by simpa using z3
            go_wp2
            go_ret
            exact ⟨rfl, HL7.out⟩
        · have z2b : (e2 != 0) = true := by simpa using z2
          go_wp2
          go_ret
          exact ⟨rfl, HL7.out⟩
      · have z4b : (e4 == 0) = false := by simpa using z4
        by_cases z2 : e2 = 0
        · subst z2
          by_cases z3 : e3 = 0
          · subst z3
            obtain ⟨q1, q2, q3⟩ := HQ2.out rfl rfl rfl
            go_wp2
            go_ret
            exact ⟨rfl, HL7.out⟩
          · have z3b : (e3 != 0) = true := by simpa using z3
            go_wp2
            go_ret
            exact ⟨rfl, HL7.out⟩
        · have z2b : (e2 != 0) = true := by simpa using z2
          go_wp2
          go_ret
          exact ⟨rfl, HL7.out⟩
    · have z1b : (e1 != 0) = true := by simpa using z1
      have z1c : (e1 == 0) = false := by simpa using z1
      go_wp2
      go_ret
      exact ⟨rfl, HL7.out⟩)


namespace pathSplits
open Go.ChangeShapes Go.WideShapes Go.ChangeAt Go.RowKit
open Go.ChangeMaps (open_string shut_string)
theorem own : ownKnob Try.prog.godebug = none := by kernel_rfl
theorem laidOut : laidOutB Try.prog = true := by kernel_rfl
set_option maxRecDepth 100000 in
theorem lifted (os : Os) (started : os.Started) (H : Type) (enc : TypeId × Value → H) :
    ReturnsInHanded {} Try.checked os 8 .any (Rows.pathSplitsSpec.pre6 enc Try.prog Try.f8 Rows.pathSplitsRow.domain false) (Rows.pathSplitsSpec.post enc Try.prog Try.f8 false true false false) := by
  refine returnsInHanded_of_change_sized (C := Try.checked) own started (by kernel_rfl) Try.func8
    (ChangeSpec.witness6 (enc := enc) (C := Try.checked) false ⟨#[], #[.int .i64 0, .int .i64 0, .slice none 0 0, .agg #[.int .i64 0, .int .i64 0]], []⟩ 8 (by kernel_rfl) (by kernel_rfl) (by kernel_rfl) (by kernel_rfl)) ?_
  intro W base args ds gs before hval0 hW _ hsz0 _
  have hval : ∀ (j : Nat) t v, Try.f8.params[j]? = some t → args[j]? = some v → Value.okWide Try.prog W .any base t v := hval0
  have hsz : (DataW.weightsEach Try.prog (Try.f8.params.toList ++ Rows.pathSplitsSpec.plain.varTypes Try.prog) (ds ++ gs)).all (· ≤ reachBytes) = true := hsz0
  have hW' := hW
  obtain ⟨p, q, hA0, hV, rfl, hfz, hnd⟩ := hW
  have hA : DataW.TrodAll enc Try.prog W 0 (fun _ => true) true Try.f8.params.toList args.toList ds p := hA0
  rw [Try.params8] at hA hval hsz
  obtain ⟨v0, vs0, d0, ds0, p0, q0, hargs, rfl, rfl, h0, r0⟩ := trodAll_cons hA
  obtain ⟨v1, vs1, d1, ds1, p1, q1, rfl, rfl, rfl, h1, r1⟩ := trodAll_cons r0
  obtain ⟨v2, vs2, d2, ds2, p2, q2, rfl, rfl, rfl, h2, r2⟩ := trodAll_cons r1
  obtain ⟨v3, vs3, d3, ds3, p3, q3, rfl, rfl, rfl, h3, r3⟩ := trodAll_cons r2
  obtain ⟨rfl, rfl, rfl⟩ := trodAll_nil r3
  obtain rfl : args = #[v0, v1, v2, v3] := by cases args; simp_all
  obtain ⟨rfl, rfl⟩ := trodVars_none hV
  have hw : ∀ (j : Nat) (t : TypeId) (d : DataW H), ([3, 3, 22, 50] ++ Rows.pathSplitsSpec.plain.varTypes Try.prog)[j]? = some t → ([d0, d1, d2, d3] ++ [])[j]? = some d → ∀ n ∈ d.weights Try.prog t, n ≤ reachBytes := fun j t d ht hd n hn =>
    of_decide_eq_true (List.all_eq_true.1 hsz _ (DataW.weights_mem_each ht hd n hn))
  obtain ⟨a0, rfl, rfl, rfl, w0⟩ := open_int Try.underlying3 (hval 0 3 v0 rfl rfl) h0
  obtain ⟨a1, rfl, rfl, rfl, w1⟩ := open_int Try.underlying3 (hval 1 3 v1 rfl rfl) h1
  have lt2 : ∀ x ∈ p2, x.block < W.heap.size := by obtain ⟨m, hm⟩ := h2; exact DataW.trod_lt m _ _ _ hm
  obtain ⟨ao2, len2, cap2, l2, e2, few2, in2⟩ := gps_in2 h2 (hw 2 22 d2 rfl rfl)
  obtain ⟨ax2, nx2, cx2, rfl⟩ := okWide_slice Try.underlying22 (hval 2 22 v2 rfl rfl)
  obtain ⟨rfl, rfl, rfl⟩ : ax2 = ao2 ∧ nx2 = len2 ∧ cx2 = cap2 := by have e := e2; simp [Value.cells] at e; exact e
  obtain ⟨cs3, rfl, hcs3⟩ := okWide_struct Try.underlying50 (hval 3 50 v3 rfl rfl)
  have lt3 : ∀ x ∈ p3, x.block < W.heap.size := by obtain ⟨m, hm⟩ := h3; exact DataW.trod_lt m _ _ _ hm
  obtain ⟨ga3, gx3, e3⟩ := gap_in hcs3 h3
  subst e3
  clear hA0 hval0
  refine (splits_walk a0 a1 ax2 nx2 cx2 l2 ga3 gx3 W in2 few2).mono fun e W' ⟨he, bel⟩ => ?_
  subst he
  exact ⟨_, rfl, _, _, _, [], _, [], hW', trodAll_mk1 (shut_bool Try.underlying4 _), (trodAll_cons_mk (shut_int Try.underlying3 w0) (trodAll_cons_mk (shut_int Try.underlying3 w1) (trodAll_cons_mk (Below.trod laidOut (by kernel_rfl) (of_decide_eq_true (by kernel_rfl)) h2 bel lt2) (trodAll_cons_mk (Below.trod laidOut (by kernel_rfl) (of_decide_eq_true (by kernel_rfl)) h3 bel lt3) trodAll_mk0)))), rfl, bel.frame _, fun h => by cases h⟩
end pathSplits

theorem pathSplits_holds : Rows.PathSplitsSaid :=
  OpenClaim.holds_of_wide 8 Try.f8 rfl rfl rfl rfl rfl rfl rfl ⟨rfl, rfl, rfl, rfl, rfl⟩ rfl rfl rfl rfl rfl (by kernel_rfl) Try.func8 (by kernel_rfl)
    (of_decide_eq_true (by kernel_rfl)) (by unfold Func.isWrapper; first | (rw [if_pos (by decide +kernel)]; kernel_rfl) | (rw [if_neg (by decide +kernel)]; exact ⟨rfl, rfl⟩))
    (fun os started H enc _ => pathSplits.lifted os started H enc)

end Go.Proofs.Ytegndeefddlccaa
