/-
  Proved: whatever three paths are handed in, PathOrder answers true: of two unlike ones just one stands ahead, and what stands ahead of one that stands ahead of a third one stands ahead of that; no condition but that what is handed in can be read.
-/
import Derived.Test.YtegndeefddlccaaPxA
import Derived.Test.YtegndeefddlccaaPyC
import Derived.Test.YtegndeefddlccaaPkD
import Derived.Test.YtegndeefddlccaaPxO
import Derived.Test.YtegndeefddlccaaRows
import Derived.ProofKit
import Derived.OpenShut
import Derived.ShutString
import Derived.ChangeOld
import Derived.Below
namespace Go.Proofs.Ytegndeefddlccaa
open Go.RowKit

structure P3 (w : World) (pa pb pc : Array Value) (wr : World) : Prop where
  low : Below w.heap.size w wr
  a : wr.heap[w.heap.size]? = some (.cells pa 33 (0, 0))
  b : wr.heap[w.heap.size + 1]? = some (.cells pb 33 (0, 0))
  c : wr.heap[w.heap.size + 1 + 1]? = some (.cells pc 33 (0, 0))
theorem P3.start (w : World) (pa pb pc : Array Value) : P3 w pa pb pc (((w.alloc (.cells pa 33)).alloc (.cells pb 33)).alloc (.cells pc 33)) :=
  ⟨below_al (below_al (bl1 _ _) _) _, hp_old (hp_old (hp_at rfl)), hp_old (hp_at (by simp)), hp_at (by simp)⟩
theorem P3.next {w : World} {pa pb pc : Array Value} {wr w2 : World} (h : P3 w pa pb pc wr) (hb : Below wr.heap.size wr w2) : P3 w pa pb pc w2 :=
  ⟨h.low.trans (hb.mono h.low.size), (Fr.of_below (O := fun _ => False) hb).heap h.a (fun h => h), (Fr.of_below (O := fun _ => False) hb).heap h.b (fun h => h), (Fr.of_below (O := fun _ => False) hb).heap h.c (fun h => h)⟩
theorem ba_inj {s t : ByteArray} (h : s.data.toList = t.data.toList) : s = t := by
  apply ByteArray.ext
  exact Array.toList_inj.1 h
theorem tl_inj {s t : ByteArray} (h : s.toList = t.toList) : s = t := by
  rw [ByteArray.toList_eq, ByteArray.toList_eq] at h
  exact ba_inj h

set_option maxRecDepth 20000 in
set_option maxHeartbeats 2000000 in
theorem order_walk (i0 j0 : Int) (s0 : ByteArray) (i1 j1 : Int) (s1 : ByteArray) (i2 j2 : Int) (s2 : ByteArray) (w : World) (hs0 : s0.size ≤ 140737488351232) (wi0 : (Lit.int .i64 i0).wf = true) (wj0 : (Lit.int .i64 j0).wf = true) (hs1 : s1.size ≤ 140737488351232) (wi1 : (Lit.int .i64 i1).wf = true) (wj1 : (Lit.int .i64 j1).wf = true) (hs2 : s2.size ≤ 140737488351232) (_wi2 : (Lit.int .i64 i2).wf = true) (_wj2 : (Lit.int .i64 j2).wf = true) :
    Calls Try.prog 7 #[.agg #[.int .i64 i0, .int .i64 j0, .string s0], .agg #[.int .i64 i1, .int .i64 j1, .string s1], .agg #[.int .i64 i2, .int .i64 j2, .string s2]] w fun e w' => e = .returned (.bool true) ∧ Below w.heap.size w w' := by
  have HS : Hid (s0.size ≤ 140737488351232 ∧ s1.size ≤ 140737488351232 ∧ s2.size ≤ 140737488351232) := ⟨hs0, hs1, hs2⟩
  clear hs0 hs1 hs2
  have HT : Hid (lessB ⟨i0, j0, s0.data.toList⟩ ⟨i1, j1, s1.data.toList⟩ = true → lessB ⟨i1, j1, s1.data.toList⟩ ⟨i2, j2, s2.data.toList⟩ = true → lessB ⟨i0, j0, s0.data.toList⟩ ⟨i2, j2, s2.data.toList⟩ = true) := less_trans
  have HA : Hid (lessB ⟨i0, j0, s0.data.toList⟩ ⟨i1, j1, s1.data.toList⟩ = true → lessB ⟨i1, j1, s1.data.toList⟩ ⟨i0, j0, s0.data.toList⟩ = false) := less_asym
  have HO : Hid (lessB ⟨i0, j0, s0.data.toList⟩ ⟨i0, j0, s0.data.toList⟩ = false) := less_self _
  have HE : Hid (lessB ⟨i0, j0, s0.data.toList⟩ ⟨i1, j1, s1.data.toList⟩ = false → lessB ⟨i1, j1, s1.data.toList⟩ ⟨i0, j0, s0.data.toList⟩ = false → i0 = i1 ∧ j0 = j1 ∧ s0 = s1) := fun h1 h2 => by
    have := less_same (p := ⟨i0, j0, s0.data.toList⟩) (q := ⟨i1, j1, s1.data.toList⟩) (wf_rng wi0) (wf_rng wj0) (wf_rng wi1) (wf_rng wj1) h1 h2
    simp only [Pt.mk.injEq] at this
    exact ⟨this.1, this.2.1, ba_inj this.2.2⟩
  have HE2 : Hid (i0 = i1 → j0 = j1 → s0 = s1 → lessB ⟨i0, j0, s0.data.toList⟩ ⟨i1, j1, s1.data.toList⟩ = false ∧ lessB ⟨i1, j1, s1.data.toList⟩ ⟨i0, j0, s0.data.toList⟩ = false) := fun h1 h2 h3 => by subst h1 h2 h3; exact ⟨less_self _, less_self _⟩
  clear wi0 wj0 wi1 wj1
  obtain ⟨x, hx⟩ : ∃ x, lessB ⟨i0, j0, s0.data.toList⟩ ⟨i1, j1, s1.data.toList⟩ = x := ⟨_, rfl⟩
  have Cx : Hid (∀ W, Calls Try.prog 21 #[.agg #[.int .i64 i0, .int .i64 j0, .string s0], .agg #[.int .i64 i1, .int .i64 j1, .string s1]] W fun e w' => e = .returned (.bool x) ∧ Below W.heap.size W w') := fun W => by rw [← hx]; exact less_calls _ _ _ _ _ _ W HS.out.1 HS.out.2.1
  obtain ⟨y, hy⟩ : ∃ y, lessB ⟨i1, j1, s1.data.toList⟩ ⟨i0, j0, s0.data.toList⟩ = y := ⟨_, rfl⟩
  have Cy : Hid (∀ W, Calls Try.prog 21 #[.agg #[.int .i64 i1, .int .i64 j1, .string s1], .agg #[.int .i64 i0, .int .i64 j0, .string s0]] W fun e w' => e = .returned (.bool y) ∧ Below W.heap.size W w') := fun W => by rw [← hy]; exact less_calls _ _ _ _ _ _ W HS.out.2.1 HS.out.1
  obtain ⟨z, hz⟩ : ∃ z, lessB ⟨i1, j1, s1.data.toList⟩ ⟨i2, j2, s2.data.toList⟩ = z := ⟨_, rfl⟩
  have Cz : Hid (∀ W, Calls Try.prog 21 #[.agg #[.int .i64 i1, .int .i64 j1, .string s1], .agg #[.int .i64 i2, .int .i64 j2, .string s2]] W fun e w' => e = .returned (.bool z) ∧ Below W.heap.size W w') := fun W => by rw [← hz]; exact less_calls _ _ _ _ _ _ W HS.out.2.1 HS.out.2.2
  obtain ⟨u, hu⟩ : ∃ u, lessB ⟨i0, j0, s0.data.toList⟩ ⟨i2, j2, s2.data.toList⟩ = u := ⟨_, rfl⟩
  have Cu : Hid (∀ W, Calls Try.prog 21 #[.agg #[.int .i64 i0, .int .i64 j0, .string s0], .agg #[.int .i64 i2, .int .i64 j2, .string s2]] W fun e w' => e = .returned (.bool u) ∧ Below W.heap.size W w') := fun W => by rw [← hu]; exact less_calls _ _ _ _ _ _ W HS.out.1 HS.out.2.2
  obtain ⟨o, ho⟩ : ∃ o, lessB ⟨i0, j0, s0.data.toList⟩ ⟨i0, j0, s0.data.toList⟩ = o := ⟨_, rfl⟩
  have Co : Hid (∀ W, Calls Try.prog 21 #[.agg #[.int .i64 i0, .int .i64 j0, .string s0], .agg #[.int .i64 i0, .int .i64 j0, .string s0]] W fun e w' => e = .returned (.bool o) ∧ Below W.heap.size W w') := fun W => by rw [← ho]; exact less_calls _ _ _ _ _ _ W HS.out.1 HS.out.1
  rw [hx, hz, hu] at HT
  rw [hx, hy] at HA HE HE2
  rw [ho] at HO
  clear hx hy hz hu ho
  have HB0 : Hid (P3 w #[.int .i64 i0, .int .i64 j0, .string s0] #[.int .i64 i1, .int .i64 j1, .string s1] #[.int .i64 i2, .int .i64 j2, .string s2] (((w.alloc (.cells #[.int .i64 i0, .int .i64 j0, .string s0] 33)).alloc (.cells #[.int .i64 i1, .int .i64 j1, .string s1] 33)).alloc (.cells #[.int .i64 i2, .int .i64 j2, .string s2] 33))) := P3.start w _ _ _
  go_enter Try.func7, Try.ntmps7
  go_wp2_with fail
  refine (awake_calls _).mono ?_
  rintro e w1 ⟨rfl, hb1⟩
  have HB1 : Hid (P3 w #[.int .i64 i0, .int .i64 j0, .string s0] #[.int .i64 i1, .int .i64 j1, .string s1] #[.int .i64 i2, .int .i64 j2, .string s2] w1) := HB0.out.next hb1
  clear hb1 HB0
  have c00 := cell_block HB1.out.a 0 (.int .i64 i0) rfl
  have c01 := cell_block HB1.out.a 1 (.int .i64 j0) rfl
  have c02 := cell_block HB1.out.a 2 (.string s0) rfl
  have c10 := cell_block HB1.out.b 0 (.int .i64 i1) rfl
  have c11 := cell_block HB1.out.b 1 (.int .i64 j1) rfl
  have c12 := cell_block HB1.out.b 2 (.string s1) rfl
  have c20 := cell_block HB1.out.c 0 (.int .i64 i2) rfl
  have c21 := cell_block HB1.out.c 1 (.int .i64 j2) rfl
  have c22 := cell_block HB1.out.c 2 (.string s2) rfl
  go_wp2_with fail
  with_reducible refine (Cx.out _).mono ?_
  rintro e w2 ⟨rfl, hb2⟩
  have HB2 : Hid (P3 w #[.int .i64 i0, .int .i64 j0, .string s0] #[.int .i64 i1, .int .i64 j1, .string s1] #[.int .i64 i2, .int .i64 j2, .string s2] w2) := HB1.out.next hb2
  clear hb2 HB1 Cx
  clear c00 c01 c02 c10 c11 c12 c20 c21 c22
  have c00 := cell_block HB2.out.a 0 (.int .i64 i0) rfl
  have c01 := cell_block HB2.out.a 1 (.int .i64 j0) rfl
  have c02 := cell_block HB2.out.a 2 (.string s0) rfl
  have c10 := cell_block HB2.out.b 0 (.int .i64 i1) rfl
  have c11 := cell_block HB2.out.b 1 (.int .i64 j1) rfl
  have c12 := cell_block HB2.out.b 2 (.string s1) rfl
  have c20 := cell_block HB2.out.c 0 (.int .i64 i2) rfl
  have c21 := cell_block HB2.out.c 1 (.int .i64 j2) rfl
  have c22 := cell_block HB2.out.c 2 (.string s2) rfl
  go_wp2_with fail
  with_reducible refine (Cy.out _).mono ?_
  rintro e w3 ⟨rfl, hb3⟩
  have HB3 : Hid (P3 w #[.int .i64 i0, .int .i64 j0, .string s0] #[.int .i64 i1, .int .i64 j1, .string s1] #[.int .i64 i2, .int .i64 j2, .string s2] w3) := HB2.out.next hb3
  clear hb3 HB2 Cy
  clear c00 c01 c02 c10 c11 c12 c20 c21 c22
  have c00 := cell_block HB3.out.a 0 (.int .i64 i0) rfl
  have c01 := cell_block HB3.out.a 1 (.int .i64 j0) rfl
  have c02 := cell_block HB3.out.a 2 (.string s0) rfl
  have c10 := cell_block HB3.out.b 0 (.int .i64 i1) rfl
  have c11 := cell_block HB3.out.b 1 (.int .i64 j1) rfl
  have c12 := cell_block HB3.out.b 2 (.string s1) rfl
  have c20 := cell_block HB3.out.c 0 (.int .i64 i2) rfl
  have c21 := cell_block HB3.out.c 1 (.int .i64 j2) rfl
  have c22 := cell_block HB3.out.c 2 (.string s2) rfl
  go_wp2_with fail
  with_reducible refine (Cz.out _).mono ?_
  rintro e w4 ⟨rfl, hb4⟩
  have HB4 : Hid (P3 w #[.int .i64 i0, .int .i64 j0, .string s0] #[.int .i64 i1, .int .i64 j1, .string s1] #[.int .i64 i2, .int .i64 j2, .string s2] w4) := HB3.out.next hb4
  clear hb4 HB3 Cz
  clear c00 c01 c02 c10 c11 c12 c20 c21 c22
  have c00 := cell_block HB4.out.a 0 (.int .i64 i0) rfl
  have c01 := cell_block HB4.out.a 1 (.int .i64 j0) rfl
  have c02 := cell_block HB4.out.a 2 (.string s0) rfl
  have c10 := cell_block HB4.out.b 0 (.int .i64 i1) rfl
  have c11 := cell_block HB4.out.b 1 (.int .i64 j1) rfl
  have c12 := cell_block HB4.out.b 2 (.string s1) rfl
  have c20 := cell_block HB4.out.c 0 (.int .i64 i2) rfl
  have c21 := cell_block HB4.out.c 1 (.int .i64 j2) rfl
  have c22 := cell_block HB4.out.c 2 (.string s2) rfl
  go_wp2_with fail
  with_reducible refine (Cu.out _).mono ?_
  rintro e w5 ⟨rfl, hb5⟩
  have HB5 : Hid (P3 w #[.int .i64 i0, .int .i64 j0, .string s0] #[.int .i64 i1, .int .i64 j1, .string s1] #[.int .i64 i2, .int .i64 j2, .string s2] w5) := HB4.out.next hb5
  clear hb5 HB4 Cu
  clear c00 c01 c02 c10 c11 c12 c20 c21 c22
  have c00 := cell_block HB5.out.a 0 (.int .i64 i0) rfl
  have c01 := cell_block HB5.out.a 1 (.int .i64 j0) rfl
  have c02 := cell_block HB5.out.a 2 (.string s0) rfl
  have c10 := cell_block HB5.out.b 0 (.int .i64 i1) rfl
  have c11 := cell_block HB5.out.b 1 (.int .i64 j1) rfl
  have c12 := cell_block HB5.out.b 2 (.string s1) rfl
  have c20 := cell_block HB5.out.c 0 (.int .i64 i2) rfl
  have c21 := cell_block HB5.out.c 1 (.int .i64 j2) rfl
  have c22 := cell_block HB5.out.c 2 (.string s2) rfl
  go_wp2_with fail
  with_reducible refine (Co.out _).mono ?_
  rintro e w6 ⟨rfl, hb6⟩
  have HB6 : Hid (P3 w #[.int .i64 i0, .int .i64 j0, .string s0] #[.int .i64 i1, .int .i64 j1, .string s1] #[.int .i64 i2, .int .i64 j2, .string s2] w6) := HB5.out.next hb6
  clear hb6 HB5 Co
  clear c00 c01 c02 c10 c11 c12 c20 c21 c22
  have c00 := cell_block HB6.out.a 0 (.int .i64 i0) rfl
  have c01 := cell_block HB6.out.a 1 (.int .i64 j0) rfl
  have c02 := cell_block HB6.out.a 2 (.string s0) rfl
  have c10 := cell_block HB6.out.b 0 (.int .i64 i1) rfl
  have c11 := cell_block HB6.out.b 1 (.int .i64 j1) rfl
  have c12 := cell_block HB6.out.b 2 (.string s1) rfl
  have c20 := cell_block HB6.out.c 0 (.int .i64 i2) rfl
  have c21 := cell_block HB6.out.c 1 (.int .i64 j2) rfl
  have c22 := cell_block HB6.out.c 2 (.string s2) rfl
  have ho2 : o = false := HO.out
  subst ho2
  clear HO
  by_cases heq : i0 = i1 ∧ j0 = j1 ∧ s0 = s1
  · obtain ⟨rfl, rfl, rfl⟩ := heq
    obtain ⟨hx2, hy2⟩ := HE2.out rfl rfl rfl
    subst hx2 hy2
    have e1 : (i0 == i0) = true := by simp
    have e2 : (j0 == j0) = true := by simp
    clear HE HE2 HA HT
    go_wp2
    go_ret
    exact ⟨rfl, HB6.out.low⟩
  · have hxy : (x = true ∧ y = false) ∨ (x = false ∧ y = true) := by
      have h1 := HA.out
      have h2 := HE.out
      cases x <;> cases y <;> simp_all
    have hT := HT.out
    clear HT HA HE HE2
    rcases hxy with ⟨rfl, rfl⟩ | ⟨rfl, rfl⟩
    · cases z
      · go_wp2
        all_goals (first | (go_ret; exact ⟨rfl, HB6.out.low⟩) | exact absurd ⟨by assumption, by assumption, tl_inj (by assumption)⟩ heq)
      · have hu2 : u = true := hT rfl rfl
        subst hu2
        go_wp2
        all_goals (first | (go_ret; exact ⟨rfl, HB6.out.low⟩) | exact absurd ⟨by assumption, by assumption, tl_inj (by assumption)⟩ heq)
    · go_wp2
      all_goals (first | (go_ret; exact ⟨rfl, HB6.out.low⟩) | exact absurd ⟨by assumption, by assumption, tl_inj (by assumption)⟩ heq)


namespace pathOrder
open Go.ChangeShapes Go.WideShapes Go.ChangeAt Go.RowKit
open Go.ChangeMaps (open_string shut_string)
theorem own : ownKnob Try.prog.godebug = none := by kernel_rfl
theorem laidOut : laidOutB Try.prog = true := by kernel_rfl
set_option maxRecDepth 100000 in
theorem lifted (os : Os) (started : os.Started) (H : Type) (enc : TypeId × Value → H) :
    ReturnsInHanded {} Try.checked os 7 .any (Rows.pathOrderSpec.pre6 enc Try.prog Try.f7 Rows.pathOrderRow.domain false) (Rows.pathOrderSpec.post enc Try.prog Try.f7 false true false false) := by
  refine returnsInHanded_of_change_sized (C := Try.checked) own started (by kernel_rfl) Try.func7
    (ChangeSpec.witness6 (enc := enc) (C := Try.checked) false ⟨#[], #[.agg #[.int .i64 0, .int .i64 0, .string { data := #[] }], .agg #[.int .i64 0, .int .i64 0, .string { data := #[] }], .agg #[.int .i64 0, .int .i64 0, .string { data := #[] }]], []⟩ 8 (by kernel_rfl) (by kernel_rfl) (by kernel_rfl) (by kernel_rfl)) ?_
  intro W base args ds gs before hval0 hW _ hsz0 _
  have hval : ∀ (j : Nat) t v, Try.f7.params[j]? = some t → args[j]? = some v → Value.okWide Try.prog W .any base t v := hval0
  have hsz : (DataW.weightsEach Try.prog (Try.f7.params.toList ++ Rows.pathOrderSpec.plain.varTypes Try.prog) (ds ++ gs)).all (· ≤ reachBytes) = true := hsz0
  have hW' := hW
  obtain ⟨p, q, hA0, hV, rfl, hfz, hnd⟩ := hW
  have hA : DataW.TrodAll enc Try.prog W 0 (fun _ => true) true Try.f7.params.toList args.toList ds p := hA0
  rw [Try.params7] at hA hval hsz
  obtain ⟨v0, vs0, d0, ds0, p0, q0, hargs, rfl, rfl, h0, r0⟩ := trodAll_cons hA
  obtain ⟨v1, vs1, d1, ds1, p1, q1, rfl, rfl, rfl, h1, r1⟩ := trodAll_cons r0
  obtain ⟨v2, vs2, d2, ds2, p2, q2, rfl, rfl, rfl, h2, r2⟩ := trodAll_cons r1
  obtain ⟨rfl, rfl, rfl⟩ := trodAll_nil r2
  obtain rfl : args = #[v0, v1, v2] := by cases args; simp_all
  obtain ⟨rfl, rfl⟩ := trodVars_none hV
  have hw : ∀ (j : Nat) (t : TypeId) (d : DataW H), ([33, 33, 33] ++ Rows.pathOrderSpec.plain.varTypes Try.prog)[j]? = some t → ([d0, d1, d2] ++ [])[j]? = some d → ∀ n ∈ d.weights Try.prog t, n ≤ reachBytes := fun j t d ht hd n hn =>
    of_decide_eq_true (List.all_eq_true.1 hsz _ (DataW.weights_mem_each ht hd n hn))
  obtain ⟨cs0, rfl, hcs0⟩ := okWide_struct Try.underlying33 (hval 0 33 v0 rfl rfl)
  have lt0 : ∀ x ∈ p0, x.block < W.heap.size := by obtain ⟨m, hm⟩ := h0; exact DataW.trod_lt m _ _ _ hm
  obtain ⟨pi0, pj0, ps0, e0, in0, wi0, wj0⟩ := path_in hcs0 h0 (hw 0 33 d0 rfl rfl)
  subst e0
  obtain ⟨cs1, rfl, hcs1⟩ := okWide_struct Try.underlying33 (hval 1 33 v1 rfl rfl)
  have lt1 : ∀ x ∈ p1, x.block < W.heap.size := by obtain ⟨m, hm⟩ := h1; exact DataW.trod_lt m _ _ _ hm
  obtain ⟨pi1, pj1, ps1, e1, in1, wi1, wj1⟩ := path_in hcs1 h1 (hw 1 33 d1 rfl rfl)
  subst e1
  obtain ⟨cs2, rfl, hcs2⟩ := okWide_struct Try.underlying33 (hval 2 33 v2 rfl rfl)
  have lt2 : ∀ x ∈ p2, x.block < W.heap.size := by obtain ⟨m, hm⟩ := h2; exact DataW.trod_lt m _ _ _ hm
  obtain ⟨pi2, pj2, ps2, e2, in2, wi2, wj2⟩ := path_in hcs2 h2 (hw 2 33 d2 rfl rfl)
  subst e2
  clear hA0 hval0
  refine (order_walk pi0 pj0 ps0 pi1 pj1 ps1 pi2 pj2 ps2 W in0 wi0 wj0 in1 wi1 wj1 in2 wi2 wj2).mono fun e W' ⟨he, bel⟩ => ?_
  subst he
  exact ⟨_, rfl, _, _, _, [], _, [], hW', trodAll_mk1 (shut_bool Try.underlying4 _), (trodAll_cons_mk (Below.trod laidOut (by kernel_rfl) (of_decide_eq_true (by kernel_rfl)) h0 bel lt0) (trodAll_cons_mk (Below.trod laidOut (by kernel_rfl) (of_decide_eq_true (by kernel_rfl)) h1 bel lt1) (trodAll_cons_mk (Below.trod laidOut (by kernel_rfl) (of_decide_eq_true (by kernel_rfl)) h2 bel lt2) trodAll_mk0))), rfl, bel.frame _, fun h => by cases h⟩
end pathOrder

theorem pathOrder_holds : Rows.PathOrderSaid :=
  OpenClaim.holds_of_wide 7 Try.f7 rfl rfl rfl rfl rfl rfl rfl ⟨rfl, rfl, rfl, rfl, rfl⟩ rfl rfl rfl rfl rfl (by kernel_rfl) Try.func7 (by kernel_rfl)
    (of_decide_eq_true (by kernel_rfl)) (by unfold Func.isWrapper; first | (rw [if_pos (by decide +kernel)]; kernel_rfl) | (rw [if_neg (by decide +kernel)]; exact ⟨rfl, rfl⟩))
    (fun os started H enc _ => pathOrder.lifted os started H enc)

end Go.Proofs.Ytegndeefddlccaa
