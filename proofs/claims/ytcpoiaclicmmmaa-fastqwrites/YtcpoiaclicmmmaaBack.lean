/-
  FastqBack is proved for every reads and every pattern: what fastq.Print writes is read as the reads, and so it is in the other forms; its errors are the document's. No condition.
-/
import Derived.Test.YtcpoiaclicmmmaaRows
import Derived.Test.YtcpoiaclicmmmaaReads
import Derived.Test.YtcpoiaclicmmmaaTwist
namespace Go.Proofs.Ytcpoiaclicmmmaa
open Go.RowKit

theorem i64_wf {d : Int} (h : (Lit.int .i64 d).wf = true) : -9223372036854775808 ≤ d ∧ d ≤ 9223372036854775807 := by
  simp [Lit.wf, IntKind.min, IntKind.max, IntKind.signed, IntKind.bits] at h
  omega

/-- Read a text that holds just these reads, and look whether it is they. -/
theorem back_calls (t : ByteArray) (ao : Option Addr) (len cap : Nat) (qs : List Rd) (w W : World) (hz : RdsAt w ao len qs) (hb : Below w.heap.size w W) (ht : parseQ t.data.toList = (qs.map Rd.P, 0, 0)) :
    Calls Try.prog 8 #[.string t] W fun e w' => ∃ ao' n cap', e = .returned (.tuple #[.slice ao' n cap', .int .i64 0, .int .i64 0]) ∧ Below w.heap.size w w' ∧ Hid (Calls Try.prog 10 #[.slice ao' n cap', .slice ao len cap] w' fun e w'' => e = .returned (.bool true) ∧ Below w.heap.size w w'') := by
  refine (parse_calls t W).mono ?_
  rintro e w' ⟨sv, ms, rfl, ho, hm, hb'⟩
  rw [ht] at hm ⊢
  obtain ⟨ao', cap', rfl⟩ := owned_shape ho
  have hbw : Below w.heap.size w w' := hb.trans (hb'.mono hb.size)
  refine ⟨ao', ms.length, cap', rfl, hbw, ?_⟩
  have h1 := same_calls ao' ao _ _ cap' cap ms qs w' (owned_rds ho) (hz.below hbw)
  rw [decide_eq_true hm] at h1
  refine h1.mono ?_
  rintro e w'' ⟨rfl, k, rfl⟩
  exact ⟨rfl, below_drewN hbw k⟩
/-- Read a text that is too long. -/
theorem long_calls (t : ByteArray) (ao : Option Addr) (len cap : Nat) (qs : List Rd) (w W : World) (hz : RdsAt w ao len qs) (hb : Below w.heap.size w W) (ht : parseQ t.data.toList = ([], 0, 2)) :
    Calls Try.prog 8 #[.string t] W fun e w' => ∃ ao' cap', e = .returned (.tuple #[.slice ao' 0 cap', .int .i64 0, .int .i64 2]) ∧ Below w.heap.size w w' ∧ Hid (Calls Try.prog 10 #[.slice ao' 0 cap', .slice ao len cap] w' fun e w'' => (∃ x, e = .returned (.bool x)) ∧ Below w.heap.size w w'') := by
  refine (parse_calls t W).mono ?_
  rintro e w' ⟨sv, ms, rfl, ho, hm, hb'⟩
  rw [ht] at hm ⊢
  have hms : ms = [] := List.map_eq_nil_iff.1 hm
  subst hms
  obtain ⟨ao', cap', rfl⟩ := owned_shape ho
  have hbw : Below w.heap.size w w' := hb.trans (hb'.mono hb.size)
  refine ⟨ao', cap', rfl, hbw, ?_⟩
  have h1 := same_calls ao' ao _ _ cap' cap [] qs w' (owned_rds ho) (hz.below hbw)
  refine h1.mono ?_
  rintro e w'' ⟨rfl, k, rfl⟩
  exact ⟨⟨_, rfl⟩, below_drewN hbw k⟩

set_option maxRecDepth 100000 in
set_option maxHeartbeats 16000000 in
theorem back_walk (ao : Option Addr) (len cap : Nat) (qs : List Rd) (pat : Int) (w : World) (hz : RdsAt w ao len qs ∧ len ≤ cap ∧ ∀ q ∈ qs, q.short) (hp : (Lit.int .i64 pat).wf = true) :
    Calls Try.prog 5 #[.slice ao len cap, .int .i64 pat] w fun e w' => e = .returned (.bool true) ∧ Below w.heap.size w w' := by
  obtain ⟨hz, _, hsh⟩ := hz
  obtain ⟨hp1, hp2⟩ := i64_wf hp
  clear hp
  have HZ : Hid (RdsAt w ao len qs) := hz
  have HSh : Hid (∀ q ∈ qs, q.short) := hsh
  have HPr : Hid (∀ W, Below w.heap.size w W → Calls Try.prog 12 #[.slice ao len cap] W fun e w' => PrintPost qs W e w') := fun W hb => print_calls ao len cap qs W (HZ.out.below hb) HSh.out
  have HRf : Hid (∀ W, Below w.heap.size w W → Calls Try.prog 13 #[.slice ao len cap] W fun e w' => PrintPost qs W e w') := fun W hb => refPrint_calls ao len cap qs W (HZ.out.below hb) HSh.out
  clear hz hsh
  go_enter Try.func5, Try.ntmps5
  go_wp2_with fail
  refine (weighs_calls ao len cap qs w HZ.out HSh.out).mono ?_
  rintro e w1 ⟨z, rfl, _, hb1⟩
  have HB1 : Hid (Below w.heap.size w w1) := hb1
  clear hb1 HSh
  by_cases hzb : 536870911 < z
  · have hd : decide ((536870911 : Int) < z) = true := by simp; omega
    go_wp2
    go_ret
    exact ⟨rfl, HB1.out⟩
  have hd : decide ((536870911 : Int) < z) = false := by simp; omega
  go_wp2_with fail
  refine (awake_calls w1).mono ?_
  rintro e w2 ⟨rfl, hb2⟩
  have HB2 : Hid (Below w.heap.size w w2) := HB1.out.trans (hb2.mono HB1.out.size)
  clear hb2 HB1
  go_wp2_with fail
  refine (HPr.out w2 HB2.out).mono ?_
  rintro e w3 ⟨t1, rfl, ht1, hb3⟩
  have HT1 : Hid (t1.data.toList = (printQ (qs.map Rd.P)).1) := ht1
  have HB3 : Hid (Below w.heap.size w w3) := HB2.out.trans (hb3.mono HB2.out.size)
  clear ht1 hb3 HB2
  go_wp2_with fail
  refine (HRf.out w3 HB3.out).mono ?_
  rintro e w4 ⟨t3, rfl, _, hb5⟩
  have HB4 : Hid (Below w.heap.size w w4) := HB3.out.trans (hb5.mono HB3.out.size)
  clear hb5 HB3 HPr HRf
  by_cases h1 : (printQ (qs.map Rd.P)).2 = 0
  · obtain ⟨k1, k2, k3, k4⟩ := print_ok h1
    have hlen : len ≤ 256 := by rw [List.length_map, HZ.out.length] at k1; exact k1
    have HOk : Hid (∀ q ∈ qs, okQ q.P = true) := fun q hq => k2 q.P (List.mem_map_of_mem hq)
    have HBk : Hid (∀ W, Below w.heap.size w W → Calls Try.prog 8 #[.string t1] W fun e w' => ∃ ao' n cap', e = .returned (.tuple #[.slice ao' n cap', .int .i64 0, .int .i64 0]) ∧ Below w.heap.size w w' ∧ Hid (Calls Try.prog 10 #[.slice ao' n cap', .slice ao len cap] w' fun e w'' => e = .returned (.bool true) ∧ Below w.heap.size w w'')) := fun W hb => back_calls t1 ao len cap qs w W HZ.out hb (by rw [HT1.out]; exact print_back _ h1)
    have HTw : Hid (∀ W, Below w.heap.size w W → Calls Try.prog 14 #[.slice ao len cap, .int .i64 pat] W fun e w' => TwistPost pat qs W e w') := fun W hb => twisted_calls ao len cap pat qs W (HZ.out.below hb) hlen HOk.out
    have HKey : Hid (∀ t2 : ByteArray, t2.data.toList = allTw (endP pat) (m2P pat) (m4P pat) (qs.map Rd.P) → t2.size ≤ 1048576 → parseQ t2.data.toList = (qs.map Rd.P, 0, 0)) := by
      intro t2 ht hs
      rw [ht]
      exact tw_back (endP_is pat) _ _ _ k2 k1 (by rw [← ht, size_toList]; exact hs)
    rw [h1]
    have hq0 : (((0 : Nat) : Int) != ((0 : Nat) : Int)) = false := by decide
    have hq1 : (((0 : Nat) : Int) != 0) = false := by decide
    clear k1 k2 k3 k4 HT1 HOk
    go_wp2_with fail
    refine (HBk.out w4 HB4.out).mono ?_
    rintro e w7 ⟨ao7, n7, cap7, rfl, hb7, hsame7⟩
    have HB7 : Hid (Below w.heap.size w w7) := hb7
    clear hb7 HBk HB4
    go_wp2_with fail
    refine hsame7.out.mono ?_
    rintro e w8 ⟨rfl, hb8⟩
    have HB8 : Hid (Below w.heap.size w w8) := hb8
    clear hb8 hsame7 HB7
    go_wp2_with fail
    refine (HTw.out w8 HB8.out).mono ?_
    rintro e w9 ⟨t2, rfl, ht2, hb9⟩
    have HT2 : Hid (t2.data.toList = allTw (endP pat) (m2P pat) (m4P pat) (qs.map Rd.P)) := ht2
    have HB9 : Hid (Below w.heap.size w w9) := HB8.out.trans (hb9.mono HB8.out.size)
    clear ht2 hb9 HTw HB8
    by_cases hbig : 1048576 < t2.size
    · have hdb : decide ((1048576 : Int) < (t2.size : Int)) = true := by simp; omega
      have HC : Hid (Calls Try.prog 8 #[.string t2] w9 fun e w' => ∃ ao' cap', e = .returned (.tuple #[.slice ao' 0 cap', .int .i64 0, .int .i64 2]) ∧ Below w.heap.size w w' ∧ Hid (Calls Try.prog 10 #[.slice ao' 0 cap', .slice ao len cap] w' fun e w'' => (∃ x, e = .returned (.bool x)) ∧ Below w.heap.size w w'')) := long_calls t2 ao len cap qs w w9 HZ.out HB9.out (parse_long _ (by rw [size_toList]; exact hbig))
      clear HT2 HKey HZ h1
      go_wp2_with fail
      refine HC.out.mono ?_
      rintro e wa ⟨aoa, capa, rfl, hba, hsamea⟩
      clear hba HC HB9
      go_wp2_with fail
      refine hsamea.out.mono ?_
      rintro e wb ⟨⟨x, rfl⟩, hbb⟩
      have HBb : Hid (Below w.heap.size w wb) := hbb
      clear hbb hsamea
      go_wp2
      go_ret
      exact ⟨rfl, HBb.out⟩
    · have hdb : decide ((1048576 : Int) < (t2.size : Int)) = false := by simp; omega
      have HC : Hid (Calls Try.prog 8 #[.string t2] w9 fun e w' => ∃ ao' n cap', e = .returned (.tuple #[.slice ao' n cap', .int .i64 0, .int .i64 0]) ∧ Below w.heap.size w w' ∧ Hid (Calls Try.prog 10 #[.slice ao' n cap', .slice ao len cap] w' fun e w'' => e = .returned (.bool true) ∧ Below w.heap.size w w'')) := back_calls t2 ao len cap qs w w9 HZ.out HB9.out (HKey.out t2 HT2.out (by omega))
      clear HT2 HKey HZ h1
      go_wp2_with fail
      refine HC.out.mono ?_
      rintro e wa ⟨aoa, na, capa, rfl, hba, hsamea⟩
      clear hba HC HB9
      go_wp2_with fail
      refine hsamea.out.mono ?_
      rintro e wb ⟨rfl, hbb⟩
      have HBb : Hid (Below w.heap.size w wb) := hbb
      clear hbb hsamea
      go_wp2
      go_ret
      exact ⟨rfl, HBb.out⟩
  · have ht : t1.toList = [] := by rw [toList_nil, HT1.out]; exact print_bad h1
    clear HT1
    generalize (printQ (qs.map Rd.P)).2 = e1 at *
    have hq0 : ((e1 : Int) != (e1 : Int)) = false := by simp
    have hq1 : ((e1 : Int) != 0) = true := by simp; omega
    clear HZ
    go_wp2
    go_ret
    exact ⟨rfl, HB4.out⟩

namespace fastqBack
open Go.ChangeShapes Go.WideShapes Go.ChangeAt Go.RowKit
open Go.ChangeMaps (open_string shut_string)
theorem own : ownKnob Try.prog.godebug = none := by kernel_rfl
theorem laidOut : laidOutB Try.prog = true := by kernel_rfl

set_option maxRecDepth 100000 in
theorem lifted (os : Os) (started : os.Started) (H : Type) (enc : TypeId × Value → H) :
    ReturnsInHanded {} Try.checked os 5 .any (Rows.fastqBackSpec.pre6 enc Try.prog Try.f5 Rows.fastqBackRow.domain false) (Rows.fastqBackSpec.post enc Try.prog Try.f5 false true false false) := by
  refine returnsInHanded_of_change (C := Try.checked) own started (by kernel_rfl) Try.func5
    (ChangeSpec.witness6 (enc := enc) (C := Try.checked) false ⟨#[], #[.slice none 0 0, .int .i64 0], []⟩ 8 (by kernel_rfl) (by kernel_rfl) (by kernel_rfl) (by kernel_rfl)) ?_
  intro W base args ds gs before hval0 hW _ _
  have hval : ∀ (j : Nat) t v, Try.f5.params[j]? = some t → args[j]? = some v → Value.okWide Try.prog W .any base t v := hval0
  have hW' := hW
  obtain ⟨p, q, hA0, hV, rfl, hfz, hnd⟩ := hW
  have hA : DataW.TrodAll enc Try.prog W 0 (fun _ => true) true Try.f5.params.toList args.toList ds p := hA0
  rw [Try.params5] at hA hval
  obtain ⟨v0, vs0, d0, ds0, p0, q0, hargs, rfl, rfl, h0, r0⟩ := trodAll_cons hA
  obtain ⟨v1, vs1, d1, ds1, p1, q1, rfl, rfl, rfl, h1, r1⟩ := trodAll_cons r0
  obtain ⟨rfl, rfl, rfl⟩ := trodAll_nil r1
  obtain rfl : args = #[v0, v1] := by cases args; simp_all
  obtain ⟨rfl, rfl⟩ := trodVars_none hV
  obtain ⟨a0, len0, cap0, rfl⟩ := okWide_slice Try.underlying23 (hval 0 23 v0 rfl rfl)
  have k0 := h0
  have lt0 : ∀ x ∈ p0, x.block < W.heap.size := by obtain ⟨m, hm⟩ := k0; exact DataW.trod_lt m _ _ _ hm
  obtain ⟨z0, w0⟩ : ∃ qs, RdsAt W a0 len0 qs ∧ len0 ≤ cap0 ∧ ∀ q ∈ qs, q.short := by
    obtain ⟨fuel, hf⟩ := h0
    obtain ⟨ao, l, c, qs, hcs, h1, h2, h3⟩ := open_rds hf
    simp [Value.cells] at hcs
    obtain ⟨rfl, rfl, rfl⟩ := hcs
    exact ⟨qs, h2, h1, h3⟩
  obtain ⟨a1, rfl, rfl, rfl, w1⟩ := open_int Try.underlying3 (hval 1 3 v1 rfl rfl) h1
  clear hA0 hval0
  refine (back_walk a0 len0 cap0 z0 a1 W w0 w1).mono fun e W' ⟨he, bel⟩ => ?_
  subst he
  exact ⟨_, rfl, _, _, _, [], _, [], hW', trodAll_mk1 (shut_bool Try.underlying4 _), (trodAll_cons_mk (Below.trod laidOut (by kernel_rfl) (of_decide_eq_true (by kernel_rfl)) k0 bel lt0) (trodAll_cons_mk (shut_int Try.underlying3 w1) trodAll_mk0)), rfl, bel.frame _, fun h => by cases h⟩
end fastqBack

theorem fastqBack_holds : Rows.FastqBackSaid :=
  OpenClaim.holds_of_wide 5 Try.f5 rfl rfl rfl rfl rfl rfl rfl ⟨rfl, rfl, rfl, rfl, rfl⟩ rfl rfl rfl rfl rfl (by kernel_rfl) Try.func5 (by kernel_rfl)
    (of_decide_eq_true (by kernel_rfl)) (by unfold Func.isWrapper; first | (rw [if_pos (by decide +kernel)]; kernel_rfl) | (rw [if_neg (by decide +kernel)]; exact ⟨rfl, rfl⟩))
    (fun os started H enc _ => fastqBack.lifted os started H enc)
end Go.Proofs.Ytcpoiaclicmmmaa
