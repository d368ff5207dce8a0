/-
  FastaBack is proved for every two widths and every sequences: what fasta.Print writes in lines of either width is read as the sequences, and its errors are the document's. No condition.
-/
import Derived.Test.YtcleejdlmamdhaaRows
import Derived.Test.YtcleejdlmamdhaaReads
import Derived.Test.YtcleejdlmamdhaaRefPrint2
import Derived.Test.YtcleejdlmamdhaaBackPlain
namespace Go.Proofs.Ytcleejdlmamdhaa
open Go.RowKit

theorem i64_wf {d : Int} (h : (Lit.int .i64 d).wf = true) : -9223372036854775808 ≤ d ∧ d ≤ 9223372036854775807 := by
  simp [Lit.wf, IntKind.min, IntKind.max, IntKind.signed, IntKind.bits] at h
  omega
theorem parse_of_print {t : ByteArray} {wd : Int} {qs : List Sq} (ht : t.data.toList = (printB wd (qs.map Sq.P)).1) (h : (printB wd (qs.map Sq.P)).2 = 0) : parseB t.data.toList = (qs.map Sq.P, 0, 0) := by
  rw [ht]; exact print_back wd _ h

/-- Read what was written, and look whether it is the sequences. -/
theorem back_calls (t : ByteArray) (wd : Int) (ao : Option Addr) (len cap : Nat) (qs : List Sq) (w W : World) (hz : SqsAt w ao len qs) (hb : Below w.heap.size w W) (ht : t.data.toList = (printB wd (qs.map Sq.P)).1) (h : (printB wd (qs.map Sq.P)).2 = 0) :
    Calls Try.prog 9 #[.string t] W fun e w' => ∃ ao' n cap', e = .returned (.tuple #[.slice ao' n cap', .int .i64 0, .int .i64 0]) ∧ Below w.heap.size w w' ∧ Hid (Calls Try.prog 11 #[.slice ao' n cap', .slice ao len cap] w' fun e w'' => e = .returned (.bool true) ∧ Below w.heap.size w w'') := by
  refine (parse_calls t W).mono ?_
  rintro e w' ⟨sv, ms, rfl, ho, hm, hb'⟩
  rw [parse_of_print ht h] at hm ⊢
  obtain ⟨ao', cap', rfl⟩ := owned_shape ho
  have hbw : Below w.heap.size w w' := hb.trans (hb'.mono hb.size)
  refine ⟨ao', ms.length, cap', rfl, hbw, ?_⟩
  have h1 := same_calls ao' ao _ _ cap' cap ms qs w' (owned_sqs ho) (hz.below hbw)
  rw [decide_eq_true hm] at h1
  refine h1.mono ?_
  rintro e w'' ⟨rfl, k, rfl⟩
  exact ⟨rfl, below_drewN hbw k⟩

set_option maxRecDepth 100000 in
set_option maxHeartbeats 16000000 in
theorem back_walk (wd od : Int) (ao : Option Addr) (len cap : Nat) (qs : List Sq) (w : World) (hw : (Lit.int .i64 wd).wf = true) (ho : (Lit.int .i64 od).wf = true) (hz : SqsAt w ao len qs ∧ len ≤ cap ∧ ∀ q ∈ qs, q.short) :
    Calls Try.prog 5 #[.int .i64 wd, .int .i64 od, .slice ao len cap] w fun e w' => e = .returned (.bool true) ∧ Below w.heap.size w w' := by
  obtain ⟨hz, hcap, hsh⟩ := hz
  obtain ⟨hw1, hw2⟩ := i64_wf hw
  obtain ⟨ho1, ho2⟩ := i64_wf ho
  clear hw ho
  have HZ : Hid (SqsAt w ao len qs) := hz
  have HSh : Hid (∀ q ∈ qs, q.short) := hsh
  have HPr : Hid (∀ d : Int, -9223372036854775808 ≤ d → d ≤ 9223372036854775807 → ∀ W, Below w.heap.size w W → Calls Try.prog 13 #[.int .i64 d, .slice ao len cap] W fun e w' => PrintPost d qs W e w') := fun d h1 h2 W hb => print_calls d ao len cap qs W (HZ.out.below hb) hcap HSh.out h1 h2
  have HRf : Hid (∀ (d : Int) W, Below w.heap.size w W → Calls Try.prog 14 #[.int .i64 d, .slice ao len cap] W fun e w' => PrintPost d qs W e w') := fun d W hb => refPrint_calls d ao len cap qs W (HZ.out.below hb) hcap HSh.out
  clear hz hsh
  go_enter Try.func5, Try.ntmps5
  go_wp2_with fail
  refine (weighs_calls ao len cap qs w HZ.out HSh.out).mono ?_
  rintro e w1 ⟨z, rfl, _, hb1⟩
  have HB1 : Hid (Below w.heap.size w w1) := hb1
  clear hb1 HSh
  by_cases hzb : 2147483647 < z
  · have hd : decide ((2147483647 : Int) < z) = true := by simp; omega
    go_wp2
    go_ret
    exact ⟨rfl, HB1.out⟩
  have hd : decide ((2147483647 : Int) < z) = false := by simp; omega
  go_wp2_with fail
  refine (awake_calls w1).mono ?_
  rintro e w2 ⟨rfl, hb2⟩
  have HB2 : Hid (Below w.heap.size w w2) := HB1.out.trans (hb2.mono HB1.out.size)
  clear hb2 HB1
  go_wp2_with fail
  refine (HPr.out wd hw1 hw2 w2 HB2.out).mono ?_
  rintro e w3 ⟨t1, rfl, ht1, hb3⟩
  have HT1 : Hid (t1.data.toList = (printB wd (qs.map Sq.P)).1) := ht1
  have HB3 : Hid (Below w.heap.size w w3) := HB2.out.trans (hb3.mono HB2.out.size)
  clear ht1 hb3 HB2
  go_wp2_with fail
  refine (HPr.out od ho1 ho2 w3 HB3.out).mono ?_
  rintro e w4 ⟨t2, rfl, ht2, hb4⟩
  have HT2 : Hid (t2.data.toList = (printB od (qs.map Sq.P)).1) := ht2
  have HB4 : Hid (Below w.heap.size w w4) := HB3.out.trans (hb4.mono HB3.out.size)
  clear ht2 hb4 HB3
  go_wp2_with fail
  refine (HRf.out wd w4 HB4.out).mono ?_
  rintro e w5 ⟨t3, rfl, _, hb5⟩
  have HB5 : Hid (Below w.heap.size w w5) := HB4.out.trans (hb5.mono HB4.out.size)
  clear hb5 HB4
  go_wp2_with fail
  refine (HRf.out od w5 HB5.out).mono ?_
  rintro e w6 ⟨t4, rfl, _, hb6⟩
  have HB6 : Hid (Below w.heap.size w w6) := HB5.out.trans (hb6.mono HB5.out.size)
  clear hb6 HB5 HPr HRf
  have HBk1 : Hid ((printB wd (qs.map Sq.P)).2 = 0 → ∀ W, Below w.heap.size w W → Calls Try.prog 9 #[.string t1] W fun e w' => ∃ ao' n cap', e = .returned (.tuple #[.slice ao' n cap', .int .i64 0, .int .i64 0]) ∧ Below w.heap.size w w' ∧ Hid (Calls Try.prog 11 #[.slice ao' n cap', .slice ao len cap] w' fun e w'' => e = .returned (.bool true) ∧ Below w.heap.size w w'')) := fun h W hb => back_calls t1 wd ao len cap qs w W HZ.out hb HT1.out h
  have HBk2 : Hid ((printB od (qs.map Sq.P)).2 = 0 → ∀ W, Below w.heap.size w W → Calls Try.prog 9 #[.string t2] W fun e w' => ∃ ao' n cap', e = .returned (.tuple #[.slice ao' n cap', .int .i64 0, .int .i64 0]) ∧ Below w.heap.size w w' ∧ Hid (Calls Try.prog 11 #[.slice ao' n cap', .slice ao len cap] w' fun e w'' => e = .returned (.bool true) ∧ Below w.heap.size w w'')) := fun h W hb => back_calls t2 od ao len cap qs w W HZ.out hb HT2.out h
  clear HT1 HT2 HZ
  generalize (printB wd (qs.map Sq.P)).2 = e1 at *
  generalize (printB od (qs.map Sq.P)).2 = e2 at *
  have hq1 : ((e1 : Int) != (e1 : Int)) = false := by simp
  have hq2 : ((e2 : Int) != (e2 : Int)) = false := by simp
  by_cases h1 : e1 = 0
  · subst h1
    have hz1 : (((0 : Nat) : Int) == 0) = true := by decide
    go_wp2_with fail
    refine (HBk1.out (by trivial) w6 HB6.out).mono ?_
    rintro e w7 ⟨ao7, n7, cap7, rfl, hb7, hsame7⟩
    have HB7 : Hid (Below w.heap.size w w7) := hb7
    clear hb7 HBk1 HB6
    go_wp2_with fail
    refine hsame7.out.mono ?_
    rintro e w8 ⟨rfl, hb8⟩
    have HB8 : Hid (Below w.heap.size w w8) := hb8
    clear hb8 hsame7 HB7
    by_cases h2 : e2 = 0
    · subst h2
      go_wp2_with fail
      refine (HBk2.out (by trivial) w8 HB8.out).mono ?_
      rintro e w9 ⟨ao9, n9, cap9, rfl, hb9, hsame9⟩
      have HB9 : Hid (Below w.heap.size w w9) := hb9
      clear hb9 HBk2 HB8
      go_wp2_with fail
      refine hsame9.out.mono ?_
      rintro e wa ⟨rfl, hba⟩
      have HBa : Hid (Below w.heap.size w wa) := hba
      clear hba hsame9 HB9
      go_wp2
      go_ret
      exact ⟨rfl, HBa.out⟩
    · have hz2 : ((e2 : Int) == 0) = false := by simp; omega
      clear HBk2
      go_wp2
      go_ret
      exact ⟨rfl, HB8.out⟩
  · have hz1 : ((e1 : Int) == 0) = false := by simp; omega
    clear HBk1
    by_cases h2 : e2 = 0
    · subst h2
      go_wp2_with fail
      refine (HBk2.out (by trivial) w6 HB6.out).mono ?_
      rintro e w9 ⟨ao9, n9, cap9, rfl, hb9, hsame9⟩
      have HB9 : Hid (Below w.heap.size w w9) := hb9
      clear hb9 HBk2 HB6
      go_wp2_with fail
      refine hsame9.out.mono ?_
      rintro e wa ⟨rfl, hba⟩
      have HBa : Hid (Below w.heap.size w wa) := hba
      clear hba hsame9 HB9
      go_wp2
      go_ret
      exact ⟨rfl, HBa.out⟩
    · have hz2 : ((e2 : Int) == 0) = false := by simp; omega
      clear HBk2
      go_wp2
      go_ret
      exact ⟨rfl, HB6.out⟩

namespace fastaBack
open Go.ChangeShapes Go.WideShapes Go.ChangeAt Go.RowKit
open Go.ChangeMaps (open_string shut_string)
theorem own : ownKnob Try.prog.godebug = none := by kernel_rfl
theorem laidOut : laidOutB Try.prog = true := by kernel_rfl

set_option maxRecDepth 100000 in
theorem lifted (os : Os) (started : os.Started) (H : Type) (enc : TypeId × Value → H) :
    ReturnsInHanded {} Try.checked os 5 .any (Rows.fastaBackSpec.pre6 enc Try.prog Try.f5 Rows.fastaBackRow.domain false) (Rows.fastaBackSpec.post enc Try.prog Try.f5 false true false false) := by
  refine returnsInHanded_of_change (C := Try.checked) own started (by kernel_rfl) Try.func5
    (ChangeSpec.witness6 (enc := enc) (C := Try.checked) false ⟨#[], #[.int .i64 0, .int .i64 0, .slice none 0 0], []⟩ 8 (by kernel_rfl) (by kernel_rfl) (by kernel_rfl) (by kernel_rfl)) ?_
  intro W base args ds gs before hval0 hW _ _
  have hval : ∀ (j : Nat) t v, Try.f5.params[j]? = some t → args[j]? = some v → Value.okWide Try.prog W .any base t v := hval0
  have hW' := hW
  obtain ⟨p, q, hA0, hV, rfl, hfz, hnd⟩ := hW
  have hA : DataW.TrodAll enc Try.prog W 0 (fun _ => true) true Try.f5.params.toList args.toList ds p := hA0
  rw [Try.params5] at hA hval
  obtain ⟨v0, vs0, d0, ds0, p0, q0, hargs, rfl, rfl, h0, r0⟩ := trodAll_cons hA
  obtain ⟨v1, vs1, d1, ds1, p1, q1, rfl, rfl, rfl, h1, r1⟩ := trodAll_cons r0
  obtain ⟨v2, vs2, d2, ds2, p2, q2, rfl, rfl, rfl, h2, r2⟩ := trodAll_cons r1
  obtain ⟨rfl, rfl, rfl⟩ := trodAll_nil r2
  obtain rfl : args = #[v0, v1, v2] := by cases args; simp_all
  obtain ⟨rfl, rfl⟩ := trodVars_none hV
  obtain ⟨a0, rfl, rfl, rfl, w0⟩ := open_int Try.underlying3 (hval 0 3 v0 rfl rfl) h0
  obtain ⟨a1, rfl, rfl, rfl, w1⟩ := open_int Try.underlying3 (hval 1 3 v1 rfl rfl) h1
  obtain ⟨a2, len2, cap2, rfl⟩ := okWide_slice Try.underlying23 (hval 2 23 v2 rfl rfl)
  have k2 := h2
  have lt2 : ∀ x ∈ p2, x.block < W.heap.size := by obtain ⟨m, hm⟩ := k2; exact DataW.trod_lt m _ _ _ hm
  obtain ⟨z2, w2⟩ : ∃ qs, SqsAt W a2 len2 qs ∧ len2 ≤ cap2 ∧ ∀ q ∈ qs, q.short := by
    obtain ⟨fuel, hf⟩ := h2
    obtain ⟨ao, l, c, qs, hcs, h1, h2, h3⟩ := open_sqs hf
    simp [Value.cells] at hcs
    obtain ⟨rfl, rfl, rfl⟩ := hcs
    exact ⟨qs, h2, h1, h3⟩
  clear hA0 hval0
  refine (back_walk a0 a1 a2 len2 cap2 z2 W w0 w1 w2).mono fun e W' ⟨he, bel⟩ => ?_
  subst he
  exact ⟨_, rfl, _, _, _, [], _, [], hW', trodAll_mk1 (shut_bool Try.underlying4 _), (trodAll_cons_mk (shut_int Try.underlying3 w0) (trodAll_cons_mk (shut_int Try.underlying3 w1) (trodAll_cons_mk (Below.trod laidOut (by kernel_rfl) (of_decide_eq_true (by kernel_rfl)) k2 bel lt2) trodAll_mk0))), rfl, bel.frame _, fun h => by cases h⟩
end fastaBack

theorem fastaBack_holds : Rows.FastaBackSaid :=
  OpenClaim.holds_of_wide 5 Try.f5 rfl rfl rfl rfl rfl rfl rfl ⟨rfl, rfl, rfl, rfl, rfl⟩ rfl rfl rfl rfl rfl (by kernel_rfl) Try.func5 (by kernel_rfl)
    (of_decide_eq_true (by kernel_rfl)) (by unfold Func.isWrapper; first | (rw [if_pos (by decide +kernel)]; kernel_rfl) | (rw [if_neg (by decide +kernel)]; exact ⟨rfl, rfl⟩))
    (fun os started H enc _ => fastaBack.lifted os started H enc)
end Go.Proofs.Ytcleejdlmamdhaa
