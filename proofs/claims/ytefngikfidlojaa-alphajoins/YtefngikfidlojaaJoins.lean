/-
  AlphaJoins is proved for every input: the numbers of two texts, one behind the other, are those of both, and the second one's fault stands at its place. No condition.
-/
import Derived.Test.YtefngikfidlojaaRows
import Derived.Test.YtefngikfidlojaaJoinPlain
import Derived.WalkKit
import Derived.ProofKit
import Derived.OpenShut
import Derived.ShutString
import Derived.ChangeOld
import Derived.Below
import Derived.Laws.AppendOwnNone
namespace Go.Proofs.Ytefngikfidlojaa
open Go.RowKit

theorem join_list (s t : ByteArray) : (s ++ t).data.toList = s.data.toList ++ t.data.toList := by simp

set_option maxHeartbeats 600000 in
theorem joins_walk (a0 a1 a2 : ByteArray) (w : World) (h0 : a0.size ≤ maxLen) (h1 : a1.size ≤ maxLen) (h2 : a2.size ≤ maxLen) :
    Calls Try.prog 8 #[.string a0, .string a1, .string a2] w fun e w' => e = .returned (.bool true) ∧ Below w.heap.size w w' := by
  obtain ⟨i0, hi, hz0, hz1, hz2⟩ := info_parts info3
  have g1 := h1
  have g2 := h2
  unfold maxLen at g1 g2
  have H0 : Hid (a0.size ≤ maxLen) := h0
  have H1 : Hid (a1.size ≤ maxLen) := h1
  have H2 : Hid (a2.size ≤ maxLen) := h2
  clear h0 h1 h2
  by_cases hb1 : 1073741823 < a1.size
  · go_enter Try.func8, Try.ntmps8
    go_wp2
    go_ret
    exact ⟨rfl, Below.refl _ _⟩
  by_cases hb2 : 1073741823 < a2.size
  · go_enter Try.func8, Try.ntmps8
    go_wp2
    go_ret
    exact ⟨rfl, Below.refl _ _⟩
  have hlen := encB_short a0.data.toList a1.data.toList
  generalize he : encB a0.data.toList a1.data.toList = r at hlen
  obtain ⟨ns, p, er⟩ := r
  have HE : Hid (encB a0.data.toList a1.data.toList = (ns, p, er)) := he
  have hns : ns.length ≤ 65536 := hlen
  clear he hlen
  have hlen := encB_short a0.data.toList a2.data.toList
  generalize he : encB a0.data.toList a2.data.toList = r at hlen
  obtain ⟨ms, q, fr⟩ := r
  have HF : Hid (encB a0.data.toList a2.data.toList = (ms, q, fr)) := he
  have hms : ms.length ≤ 65536 := hlen
  clear he hlen
  generalize he : encB a0.data.toList (a1 ++ a2).data.toList = r
  obtain ⟨cs, pl, gr⟩ := r
  have HG : Hid (encB a0.data.toList (a1 ++ a2).data.toList = (cs, pl, gr)) := he
  clear he
  have H3 : Hid ((a1 ++ a2).size ≤ maxLen) := by show (a1 ++ a2).size ≤ maxLen; simp [maxLen]; omega
  go_enter Try.func8, Try.ntmps8
  go_wp2_with fail
  refine (awake_calls _).mono ?_
  rintro e w1 ⟨rfl, hb1⟩
  have HB1 : Hid (Below w.heap.size w w1) := hb1
  clear hb1
  go_wp2_with fail
  refine (encodeAt_calls a0 a1 _ H0.out H1.out ns p er HE.out).mono ?_
  rintro e w2 ⟨ao, acap, rfl, ho2, hb2⟩
  have HO2 : Hid (w2.ownsRow w1.heap.size 3 1 (.slice ao ns.length acap) ns.length (ns.map (Value.int .i64))) := ho2
  have HB2 : Hid (Below w.heap.size w w2) := HB1.out.trans (hb2.mono HB1.out.size)
  have hsz : w.heap.size ≤ w1.heap.size := HB1.out.size
  have HS12 : Hid (w1.heap.size ≤ w2.heap.size) := hb2.size
  clear hb2 ho2 HB1
  go_wp2_with fail
  refine (encodeAt_calls a0 a2 _ H0.out H2.out ms q fr HF.out).mono ?_
  rintro e w3 ⟨bo, bcap, rfl, ho3, hb3⟩
  have HO3 : Hid (w3.ownsRow w1.heap.size 3 1 (.slice ao ns.length acap) ns.length (ns.map (Value.int .i64))) := owned_below_all HO2.out hb3
  have HP3 : Hid (w3.ownsRow w2.heap.size 3 1 (.slice bo ms.length bcap) ms.length (ms.map (Value.int .i64))) := ho3
  have HB3 : Hid (Below w.heap.size w w3) := HB2.out.trans (hb3.mono HB2.out.size)
  have HS13 : Hid (w1.heap.size ≤ w3.heap.size) := Nat.le_trans HS12.out hb3.size
  clear ho3 hb3 HB2 HO2 HS12
  go_wp2_with fail
  refine (encodeAt_calls a0 (a1 ++ a2) _ H0.out H3.out cs pl gr HG.out).mono ?_
  rintro e w4 ⟨co, ccap, rfl, ho4, hb4⟩
  have HO4 : Hid (w4.ownsRow w1.heap.size 3 1 (.slice ao ns.length acap) ns.length (ns.map (Value.int .i64))) := owned_below_all HO3.out hb4
  have HP4 : Hid (w4.ownsRow w2.heap.size 3 1 (.slice bo ms.length bcap) ms.length (ms.map (Value.int .i64))) := owned_below_all HP3.out hb4
  have HQ4 : Hid (w4.ownsRow w3.heap.size 3 1 (.slice co cs.length ccap) cs.length (cs.map (Value.int .i64))) := ho4
  have HB4 : Hid (Below w.heap.size w w4) := HB3.out.trans (hb4.mono HB3.out.size)
  have HA4 : Hid (∀ k, Value.ownBlock (.slice ao ns.length acap) = some k → k < w3.heap.size) := fun k hk => (HO3.out.lt k hk).2
  have hs4 : w1.heap.size ≤ w4.heap.size := Nat.le_trans HS13.out hb4.size
  clear ho4 hb4 HB3 HO3 HP3
  by_cases he0 : er = 0
  · subst he0
    by_cases hlong : 65536 < a1.size + a2.size
    · have hgr : gr = 2 := by
        have h := encB_long (t := a2.data.toList) (encB_ok HE.out).1 (s := a1.data.toList) (by simpa using hlong)
        rw [← join_list, HG.out] at h
        cases h; rfl
      subst hgr
      go_wp2
      go_ret
      exact ⟨rfl, HB4.out⟩
    · have hj := encB_join HE.out (t := a2.data.toList) (by simpa using hlong) HF.out
      rw [← join_list, HG.out] at hj
      rcases hj with ⟨rfl, hj⟩ | ⟨rfl, hj⟩
      · simp only [Prod.mk.injEq] at hj
        obtain ⟨hcs, rfl, rfl⟩ := hj
        have HCS : Hid (cs = ns ++ ms) := hcs
        clear hcs
        rcases HP4.out.2 with ⟨hv, h0⟩ | ⟨gb, bcap', _, hv, _⟩
        · have hm0 : ms = [] := List.eq_nil_of_length_eq_zero h0
          subst hm0
          cases hv
          obtain rfl : ns = cs := by rw [HCS.out, List.append_nil]
          have hal := alike_refl ns
          clear HCS
          go_wp2_with (at_builtin; refine wpList_append_own_none rfl _ _ 32 rfl w1.heap.size 3 i0 1 Try.underlying32 hi _ _ _ rfl HO4.out rfl ?_)
          refine (same_calls _ _ _ _ _ _ ns ns _ (intsAt_owned HQ4.out) (intsAt_owned HO4.out)).mono ?_
          rintro e w6 ⟨rfl, hd⟩
          have HB6 : Hid (Below w.heap.size w w6) := below_drewN' HB4.out hd
          clear hd
          rw [hal]
          go_wp2
          go_ret
          exact ⟨rfl, HB6.out⟩
        · cases hv
          have hal := alike_refl cs
          go_wp2_with (at_builtin; refine wpList_append_own _ rfl _ _ 32 rfl w1.heap.size 3 i0 (.int .i64 0) 1 8 Try.underlying32 hi hz0 hz1 hz2 rfl (by decide) _ _ _ rfl HO4.out ⟨gb, 0, none⟩ _ _ (ms.map (Value.int .i64)) rfl (by simp) (fun j u hu => HP4.out.cells rfl j u hu) (ints_oneCell _ _) (by unfold maxLen; omega) (by omega) hs4 ?_)
          intro v' w5 hown hgrow _
          have HO5 : Hid (∃ ao' acap', v' = .slice ao' cs.length acap' ∧ IntsAt w5 ao' cs.length cs) := by
            have e1 : ns.length + ms.length = cs.length := by rw [HCS.out]; simp
            rw [e1, ← List.map_append, ← HCS.out] at hown
            exact intsAt_of_owned hown
          have HQ5 : Hid (w5.ownsRow w3.heap.size 3 1 (.slice co cs.length ccap) cs.length (cs.map (Value.int .i64))) := by
            refine HQ4.out.kept hgrow ?_
            cases hv : Value.ownBlock (.slice co cs.length ccap) with
            | none => exact .inl rfl
            | some k =>
              right
              intro e
              have q1 := HA4.out k e.symm
              have q2 := (HQ4.out.lt k hv).1
              omega
          have HB5 : Hid (Below w.heap.size w w5) := HB4.out.grown hgrow (HB4.out.size) (fun k hk => Nat.le_trans hsz (HO4.out.lt k hk).1)
          clear hown hgrow HO4 HP4 HQ4 HB4
          obtain ⟨ao', acap', rfl, hia⟩ := HO5.out
          have HIA : Hid (IntsAt w5 ao' cs.length cs) := hia
          clear hia
          go_wp2_with fail
          refine (same_calls _ _ _ _ _ _ cs cs _ (intsAt_owned HQ5.out) HIA.out).mono ?_
          rintro e w6 ⟨rfl, hd⟩
          have HB6 : Hid (Below w.heap.size w w6) := below_drewN' HB5.out hd
          clear hd
          rw [hal]
          go_wp2
          go_ret
          exact ⟨rfl, HB6.out⟩
      · simp only [Prod.mk.injEq] at hj
        obtain ⟨rfl, rfl, rfl⟩ := hj
        have hq : q ≤ a2.size := by
          have h := encB_place a0.data.toList a2.data.toList
          rw [HF.out] at h
          simpa using h
        go_wp2
        go_ret
        exact ⟨rfl, HB4.out⟩
  · have hne : (er != 0) = true := by simpa using he0
    clear he0
    go_wp2
    go_ret
    exact ⟨rfl, HB4.out⟩

namespace alphaJoins
open Go.ChangeShapes Go.WideShapes Go.ChangeAt Go.RowKit
open Go.ChangeMaps (open_string shut_string)
theorem own : ownKnob Try.prog.godebug = none := by kernel_rfl

set_option maxRecDepth 100000 in
theorem lifted (os : Os) (started : os.Started) (H : Type) (enc : TypeId × Value → H) :
    ReturnsInHanded {} Try.checked os 8 .any (Rows.alphaJoinsSpec.pre6 enc Try.prog Try.f8 Rows.alphaJoinsRow.domain false) (Rows.alphaJoinsSpec.post enc Try.prog Try.f8 false true false false) := by
  refine returnsInHanded_of_change (C := Try.checked) own started (by kernel_rfl) Try.func8
    (ChangeSpec.witness6 (enc := enc) (C := Try.checked) false ⟨#[], #[.string ByteArray.empty, .string ByteArray.empty, .string ByteArray.empty], []⟩ 8 (by kernel_rfl) (by kernel_rfl) (by kernel_rfl) (by kernel_rfl)) ?_
  intro W base args ds gs before hval0 hW _ _
  have hval : ∀ (j : Nat) t v, Try.f8.params[j]? = some t → args[j]? = some v → Value.okWide Try.prog W .any base t v := hval0
  have hW' := hW
  obtain ⟨p, q, hA0, hV, rfl, hfz, hnd⟩ := hW
  have hA : DataW.TrodAll enc Try.prog W 0 (fun _ => true) true Try.f8.params.toList args.toList ds p := hA0
  rw [Try.params8] at hA hval
  obtain ⟨v0, vs0, d0, ds0, p0, q0, hargs, rfl, rfl, h0, r0⟩ := trodAll_cons hA
  obtain ⟨v1, vs1, d1, ds1, p1, q1, rfl, rfl, rfl, h1, r1⟩ := trodAll_cons r0
  obtain ⟨v2, vs2, d2, ds2, p2, q2, rfl, rfl, rfl, h2, r2⟩ := trodAll_cons r1
  obtain ⟨rfl, rfl, rfl⟩ := trodAll_nil r2
  obtain rfl : args = #[v0, v1, v2] := by cases args; simp_all
  obtain ⟨rfl, rfl⟩ := trodVars_none hV
  obtain ⟨a0, rfl, rfl, rfl, w0⟩ := open_string Try.underlying9 (hval 0 9 v0 rfl rfl) h0
  obtain ⟨a1, rfl, rfl, rfl, w1⟩ := open_string Try.underlying9 (hval 1 9 v1 rfl rfl) h1
  obtain ⟨a2, rfl, rfl, rfl, w2⟩ := open_string Try.underlying9 (hval 2 9 v2 rfl rfl) h2
  clear hA0 hval0
  refine (joins_walk a0 a1 a2 W w0 w1 w2).mono fun e W' ⟨he, bel⟩ => ?_
  subst he
  exact ⟨_, rfl, _, _, _, [], _, [], hW', trodAll_mk1 (shut_bool Try.underlying4 _), (trodAll_cons_mk (shut_string Try.underlying9 w0) (trodAll_cons_mk (shut_string Try.underlying9 w1) (trodAll_cons_mk (shut_string Try.underlying9 w2) trodAll_mk0))), rfl, bel.frame _, fun h => by cases h⟩
end alphaJoins

theorem alphaJoins_holds : Rows.AlphaJoinsSaid :=
  OpenClaim.holds_of_wide 8 Try.f8 rfl rfl rfl rfl rfl rfl rfl ⟨rfl, rfl, rfl, rfl, rfl⟩ rfl rfl rfl rfl rfl (by kernel_rfl) Try.func8 (by kernel_rfl)
    (of_decide_eq_true (by kernel_rfl)) (by unfold Func.isWrapper; first | (rw [if_pos (by decide +kernel)]; kernel_rfl) | (rw [if_neg (by decide +kernel)]; exact ⟨rfl, rfl⟩))
    (fun os started H enc _ => alphaJoins.lifted os started H enc)
end Go.Proofs.Ytefngikfidlojaa
