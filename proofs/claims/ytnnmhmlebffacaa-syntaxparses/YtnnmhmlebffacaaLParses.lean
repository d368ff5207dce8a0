/-
  SyntaxParses is proved for every input: the tree of each source, with its places, or the first fault, is what the document says, and what was told is the caller's own. Its condition is the row's own: what is handed in reads as data.
-/
import Derived.Test.YtnnmhmlebffacaaRows
import Derived.WalkKit
import Derived.ProofKit
import Derived.OpenShut
import Derived.ShutString
import Derived.ChangeOld
import Derived.Below
import Derived.Test.YtnnmhmlebffacaaG47
import Derived.Test.YtnnmhmlebffacaaG49
namespace Go.Proofs.Ytnnmhmlebffacaa
open Go.RowKit Go.Deep

theorem guard27 : Try.prog.eqGuardType Try.prog.depth 27 = false := by kernel_rfl
/-- A tree and a fault in their variables. -/
structure TV (b : Nat) (L : List It) (f : Int × Int) (lo hi : Nat) (ao : Option Addr) (n c : Nat) (W : World) : Prop where
  var : W.heap[b]? = some (.cells #[.slice ao n c] 24 (0, 0))
  flt : W.heap[b + 1]? = some (.cells #[.int .i64 f.1, .int .i64 f.2] 27 (0, 0))
  its : ItsAt true (fun g => lo ≤ g ∧ g < hi) W L ao n
  few : n ≤ 4002
  low : hi ≤ b
theorem TV.next {b lo hi n c : Nat} {L : List It} {f : Int × Int} {ao : Option Addr} {W W' : World} (h : TV b L f lo hi ao n c W) (hk : Below W.heap.size W W') : TV b L f lo hi ao n c W' :=
  ⟨by rw [hk.block _ (lt_block h.var)]; exact h.var, by rw [hk.block _ (lt_block h.flt)]; exact h.flt, h.its.below hk, h.few, h.low⟩
theorem TV.sq {b lo hi n c : Nat} {L : List It} {f : Int × Int} {ao : Option Addr} {W W' : World} {S : Nat → Prop} (h : TV b L f lo hi ao n c W) (hk : Sq S W W') (hS : ∀ g, S g → g < lo) (hlo : lo ≤ b) : TV b L f lo hi ao n c W' :=
  ⟨by rw [hk.block _ (lt_block h.var) (fun e => by have := hS _ e; omega)]; exact h.var, by rw [hk.block _ (lt_block h.flt) (fun e => by have := hS _ e; omega)]; exact h.flt, itsAt_keep (fun g hg hs => hk.block g hg (fun e => by have := hS _ e; have := hs.1; omega)) h.its, h.few, h.low⟩
theorem TV.start {w w' : World} {A : List It × Int × Int} {ao : Option Addr} {n c : Nat} (hn : n ≤ 4002) (hI : ItsAt true (fun g => w.heap.size ≤ g) w' A.1 ao n) : TV w'.heap.size A.1 A.2 w.heap.size w'.heap.size ao n c ((w'.alloc (.cells #[.slice ao n c] 24)).alloc (.cells #[.int .i64 A.2.1, .int .i64 A.2.2] 27)) :=
  ⟨heap_old (heap_alloc_new w' _), twoN_new w' _ _, (hI.base fun _ h1 h2 => ⟨h2, h1⟩).below (below_two w' _ _), hn, Nat.le_refl _⟩
set_option maxRecDepth 20000 in
set_option maxHeartbeats 8000000 in
theorem parses_walk (s t : ByteArray) (w : World) (_hs0 : s.size ≤ maxLen) (_ht0 : t.size ≤ maxLen) :
    Calls Try.prog 3 #[.string s, .string t] w fun e w' => e = .returned (.bool true) ∧ Below w.heap.size w w' := by
  have HP : Hid (∀ w, Calls Try.prog 9 #[.string s] w fun e w' => TreePost (parseW s.data.toList) w e w') := fun w => parse_calls s w
  have HQ : Hid (∀ w, Calls Try.prog 10 #[.string s] w fun e w' => TreePost (parseW s.data.toList) w e w') := fun w => refParse_calls s w
  have HP2 : Hid (∀ w, Calls Try.prog 9 #[.string t] w fun e w' => TreePost (parseW t.data.toList) w e w') := fun w => parse_calls t w
  have HQ2 : Hid (∀ w, Calls Try.prog 10 #[.string t] w fun e w' => TreePost (parseW t.data.toList) w e w') := fun w => refParse_calls t w
  have hg27 := guard27
  generalize parseW s.data.toList = A at *
  generalize parseW t.data.toList = C at *
  clear _hs0 _ht0
  have hmx : (4002 : Nat) ≤ maxLen := by decide
  have HM : Hid ((4002 : Nat) ≤ maxLen) := hmx
  clear hmx
  go_enter Try.func3, Try.ntmps3
  go_wp2_with fail
  refine (HP.out _).mono ?_
  rintro e w1 ⟨a1, n1, c1, rfl, hn1, hI1, hb1⟩
  have HA1 : Hid (TV w1.heap.size A.1 A.2 w.heap.size w1.heap.size a1 n1 c1 ((w1.alloc (.cells #[.slice a1 n1 c1] 24)).alloc (.cells #[.int .i64 A.2.1, .int .i64 A.2.2] 27)) ∧ Below w.heap.size w ((w1.alloc (.cells #[.slice a1 n1 c1] 24)).alloc (.cells #[.int .i64 A.2.1, .int .i64 A.2.2] 27)) ∧ w1.heap.size + 2 ≤ ((w1.alloc (.cells #[.slice a1 n1 c1] 24)).alloc (.cells #[.int .i64 A.2.1, .int .i64 A.2.2] 27)).heap.size ∧ w.heap.size ≤ w1.heap.size) := ⟨TV.start hn1 hI1, hb1.trans ((below_two w1 _ _).mono hb1.size), by simp, hb1.size⟩
  clear hn1 hI1 hb1
  go_wp2_with fail
  generalize ((w1.alloc (.cells #[.slice a1 n1 c1] 24)).alloc (.cells #[.int .i64 A.2.1, .int .i64 A.2.2] 27)) = W1 at *
  refine (HQ.out _).mono ?_
  rintro e w2 ⟨a2, n2, c2, rfl, hn2, hI2, hb2⟩
  have HA2 : Hid (TV w1.heap.size A.1 A.2 w.heap.size w1.heap.size a1 n1 c1 ((w2.alloc (.cells #[.slice a2 n2 c2] 24)).alloc (.cells #[.int .i64 A.2.1, .int .i64 A.2.2] 27)) ∧ TV w2.heap.size A.1 A.2 W1.heap.size w2.heap.size a2 n2 c2 ((w2.alloc (.cells #[.slice a2 n2 c2] 24)).alloc (.cells #[.int .i64 A.2.1, .int .i64 A.2.2] 27)) ∧ Below w.heap.size w ((w2.alloc (.cells #[.slice a2 n2 c2] 24)).alloc (.cells #[.int .i64 A.2.1, .int .i64 A.2.2] 27)) ∧ w1.heap.size + 2 ≤ W1.heap.size ∧ W1.heap.size ≤ w2.heap.size ∧ w.heap.size ≤ w1.heap.size) := by
    have hb3 := hb2.trans ((below_two w2 (.cells #[.slice a2 n2 c2] 24) (.cells #[.int .i64 A.2.1, .int .i64 A.2.2] 27)).mono hb2.size)
    exact ⟨HA1.out.1.next hb3, TV.start hn2 hI2, HA1.out.2.1.trans (hb3.mono HA1.out.2.1.size), HA1.out.2.2.1, hb2.size, HA1.out.2.2.2⟩
  have v1 := blk (i := 0) HA2.out.1.var rfl
  have v2 := blk (i := 0) HA2.out.2.1.var rfl
  have HWh : Hid (Calls Try.prog 11 #[.agg #[.slice a1 n1 c1], .agg #[.slice a2 n2 c2]] ((w2.alloc (.cells #[.slice a2 n2 c2] 24)).alloc (.cells #[.int .i64 A.2.1, .int .i64 A.2.2] 27)) fun e' w' => e' = .returned (.bool true) ∧ Below ((w2.alloc (.cells #[.slice a2 n2 c2] 24)).alloc (.cells #[.int .i64 A.2.1, .int .i64 A.2.2] 27)).heap.size ((w2.alloc (.cells #[.slice a2 n2 c2] 24)).alloc (.cells #[.int .i64 A.2.1, .int .i64 A.2.2] 27)) w') := whole_same A.1 a1 a2 n1 c1 n2 c2 _ true true _ _ HA2.out.1.its HA2.out.2.1.its (Nat.le_trans HA2.out.1.few HM.out) (Nat.le_trans HA2.out.2.1.few HM.out)
  clear hn2 hI2 hb2 HA1
  go_wp2_with fail
  generalize ((w2.alloc (.cells #[.slice a2 n2 c2] 24)).alloc (.cells #[.int .i64 A.2.1, .int .i64 A.2.2] 27)) = W2 at *
  refine HWh.out.mono ?_
  rintro e w3 ⟨rfl, hb3⟩
  have HA3 : Hid (TV w1.heap.size A.1 A.2 w.heap.size w1.heap.size a1 n1 c1 w3 ∧ TV w2.heap.size A.1 A.2 W1.heap.size w2.heap.size a2 n2 c2 w3 ∧ Below w.heap.size w w3 ∧ w1.heap.size + 2 ≤ W1.heap.size ∧ W1.heap.size ≤ w2.heap.size ∧ w.heap.size ≤ w1.heap.size) := ⟨HA2.out.1.next hb3, HA2.out.2.1.next hb3, HA2.out.2.2.1.trans (hb3.mono HA2.out.2.2.1.size), HA2.out.2.2.2⟩
  have v3 := blk (i := 0) HA3.out.1.var rfl
  have HSp : Hid (Calls Try.prog 12 #[.agg #[.slice a1 n1 c1]] w3 fun e w' => e = .returned (.tuple #[]) ∧ Sq (fun g => w.heap.size ≤ g ∧ g < w1.heap.size) w3 w') := spoil_calls A.1 a1 n1 c1 w3 HA3.out.1.its HA3.out.1.few fun g hg => by
    have := lt_block HA3.out.1.var
    have := hg.2
    omega
  clear hb3 HA2 HWh v1 v2
  go_wp2_with fail
  refine HSp.out.mono ?_
  rintro e w4 ⟨rfl, hb4⟩
  have HA4 : Hid (w4.heap[w1.heap.size + 1]? = some (.cells #[.int .i64 A.2.1, .int .i64 A.2.2] 27 (0, 0)) ∧ TV w2.heap.size A.1 A.2 W1.heap.size w2.heap.size a2 n2 c2 w4 ∧ Below w.heap.size w w4) := by
    obtain ⟨q1, q2, q3, q4, q5, q6⟩ := HA3.out
    have hz := q3.size
    refine ⟨by rw [hb4.block _ (lt_block q1.flt) (fun e => by have := e.2; omega)]; exact q1.flt, q2.sq hb4 (fun g hg => by have := hg.2; omega) (by omega), q3.trans ⟨hb4.os, hb4.tape, hb4.output, hb4.size, fun g hg => hb4.block g (by omega) (fun e => by have := e.1; omega)⟩⟩
  clear hb4 HA3 HSp v3
  go_wp2_with fail
  refine (HP2.out _).mono ?_
  rintro e w5 ⟨a5, n5, c5, rfl, hn5, hI5, hb5⟩
  have HA5 : Hid (((w5.alloc (.cells #[.slice a5 n5 c5] 24)).alloc (.cells #[.int .i64 C.2.1, .int .i64 C.2.2] 27)).heap[w1.heap.size + 1]? = some (.cells #[.int .i64 A.2.1, .int .i64 A.2.2] 27 (0, 0)) ∧ TV w2.heap.size A.1 A.2 W1.heap.size w2.heap.size a2 n2 c2 ((w5.alloc (.cells #[.slice a5 n5 c5] 24)).alloc (.cells #[.int .i64 C.2.1, .int .i64 C.2.2] 27)) ∧ Below w.heap.size w ((w5.alloc (.cells #[.slice a5 n5 c5] 24)).alloc (.cells #[.int .i64 C.2.1, .int .i64 C.2.2] 27)) ∧ TV w5.heap.size C.1 C.2 w4.heap.size w5.heap.size a5 n5 c5 ((w5.alloc (.cells #[.slice a5 n5 c5] 24)).alloc (.cells #[.int .i64 C.2.1, .int .i64 C.2.2] 27))) := by
    have hb3 := hb5.trans ((below_two w5 (.cells #[.slice a5 n5 c5] 24) (.cells #[.int .i64 C.2.1, .int .i64 C.2.2] 27)).mono hb5.size)
    obtain ⟨q1, q2, q3⟩ := HA4.out
    exact ⟨by rw [hb3.block _ (lt_block q1)]; exact q1, q2.next hb3, q3.trans (hb3.mono q3.size), TV.start hn5 hI5⟩
  clear hn5 hI5 hb5 HA4
  go_wp2_with fail
  generalize ((w5.alloc (.cells #[.slice a5 n5 c5] 24)).alloc (.cells #[.int .i64 C.2.1, .int .i64 C.2.2] 27)) = W5 at *
  refine (HQ2.out _).mono ?_
  rintro e w6 ⟨a6, n6, c6, rfl, hn6, hI6, hb6⟩
  have HA6 : Hid (((w6.alloc (.cells #[.slice a6 n6 c6] 24)).alloc (.cells #[.int .i64 C.2.1, .int .i64 C.2.2] 27)).heap[w1.heap.size + 1]? = some (.cells #[.int .i64 A.2.1, .int .i64 A.2.2] 27 (0, 0)) ∧ TV w2.heap.size A.1 A.2 W1.heap.size w2.heap.size a2 n2 c2 ((w6.alloc (.cells #[.slice a6 n6 c6] 24)).alloc (.cells #[.int .i64 C.2.1, .int .i64 C.2.2] 27)) ∧ Below w.heap.size w ((w6.alloc (.cells #[.slice a6 n6 c6] 24)).alloc (.cells #[.int .i64 C.2.1, .int .i64 C.2.2] 27)) ∧ TV w5.heap.size C.1 C.2 w4.heap.size w5.heap.size a5 n5 c5 ((w6.alloc (.cells #[.slice a6 n6 c6] 24)).alloc (.cells #[.int .i64 C.2.1, .int .i64 C.2.2] 27)) ∧ TV w6.heap.size C.1 C.2 W5.heap.size w6.heap.size a6 n6 c6 ((w6.alloc (.cells #[.slice a6 n6 c6] 24)).alloc (.cells #[.int .i64 C.2.1, .int .i64 C.2.2] 27))) := by
    have hb3 := hb6.trans ((below_two w6 (.cells #[.slice a6 n6 c6] 24) (.cells #[.int .i64 C.2.1, .int .i64 C.2.2] 27)).mono hb6.size)
    obtain ⟨q1, q2, q3, q4⟩ := HA5.out
    exact ⟨by rw [hb3.block _ (lt_block q1)]; exact q1, q2.next hb3, q3.trans (hb3.mono q3.size), q4.next hb3, TV.start hn6 hI6⟩
  have v5 := blk (i := 0) HA6.out.2.2.2.1.var rfl
  have v6 := blk (i := 0) HA6.out.2.2.2.2.var rfl
  have HWi : Hid (Calls Try.prog 11 #[.agg #[.slice a5 n5 c5], .agg #[.slice a6 n6 c6]] ((w6.alloc (.cells #[.slice a6 n6 c6] 24)).alloc (.cells #[.int .i64 C.2.1, .int .i64 C.2.2] 27)) fun e' w' => e' = .returned (.bool true) ∧ Below ((w6.alloc (.cells #[.slice a6 n6 c6] 24)).alloc (.cells #[.int .i64 C.2.1, .int .i64 C.2.2] 27)).heap.size ((w6.alloc (.cells #[.slice a6 n6 c6] 24)).alloc (.cells #[.int .i64 C.2.1, .int .i64 C.2.2] 27)) w') := whole_same C.1 a5 a6 n5 c5 n6 c6 _ true true _ _ HA6.out.2.2.2.1.its HA6.out.2.2.2.2.its (Nat.le_trans HA6.out.2.2.2.1.few HM.out) (Nat.le_trans HA6.out.2.2.2.2.few HM.out)
  clear hn6 hI6 hb6 HA5
  go_wp2_with fail
  generalize ((w6.alloc (.cells #[.slice a6 n6 c6] 24)).alloc (.cells #[.int .i64 C.2.1, .int .i64 C.2.2] 27)) = W6 at *
  refine HWi.out.mono ?_
  rintro e w7 ⟨rfl, hb7⟩
  have HA7 : Hid (w7.heap[w1.heap.size + 1]? = some (.cells #[.int .i64 A.2.1, .int .i64 A.2.2] 27 (0, 0)) ∧ TV w2.heap.size A.1 A.2 W1.heap.size w2.heap.size a2 n2 c2 w7 ∧ Below w.heap.size w w7 ∧ TV w5.heap.size C.1 C.2 w4.heap.size w5.heap.size a5 n5 c5 w7 ∧ TV w6.heap.size C.1 C.2 W5.heap.size w6.heap.size a6 n6 c6 w7) := by
    obtain ⟨q1, q2, q3, q4, q5⟩ := HA6.out
    exact ⟨by rw [hb7.block _ (lt_block q1)]; exact q1, q2.next hb7, q3.trans (hb7.mono q3.size), q4.next hb7, q5.next hb7⟩
  clear hb7 HA6 HWi v5 v6
  go_wp2_with fail
  refine (HP.out _).mono ?_
  rintro e w8 ⟨a8, n8, c8, rfl, hn8, hI8, hb8⟩
  have HA8 : Hid (((w8.alloc (.cells #[.slice a8 n8 c8] 24)).alloc (.cells #[.int .i64 A.2.1, .int .i64 A.2.2] 27)).heap[w1.heap.size + 1]? = some (.cells #[.int .i64 A.2.1, .int .i64 A.2.2] 27 (0, 0)) ∧ TV w2.heap.size A.1 A.2 W1.heap.size w2.heap.size a2 n2 c2 ((w8.alloc (.cells #[.slice a8 n8 c8] 24)).alloc (.cells #[.int .i64 A.2.1, .int .i64 A.2.2] 27)) ∧ Below w.heap.size w ((w8.alloc (.cells #[.slice a8 n8 c8] 24)).alloc (.cells #[.int .i64 A.2.1, .int .i64 A.2.2] 27)) ∧ TV w5.heap.size C.1 C.2 w4.heap.size w5.heap.size a5 n5 c5 ((w8.alloc (.cells #[.slice a8 n8 c8] 24)).alloc (.cells #[.int .i64 A.2.1, .int .i64 A.2.2] 27)) ∧ TV w6.heap.size C.1 C.2 W5.heap.size w6.heap.size a6 n6 c6 ((w8.alloc (.cells #[.slice a8 n8 c8] 24)).alloc (.cells #[.int .i64 A.2.1, .int .i64 A.2.2] 27)) ∧ TV w8.heap.size A.1 A.2 w7.heap.size w8.heap.size a8 n8 c8 ((w8.alloc (.cells #[.slice a8 n8 c8] 24)).alloc (.cells #[.int .i64 A.2.1, .int .i64 A.2.2] 27))) := by
    have hb3 := hb8.trans ((below_two w8 (.cells #[.slice a8 n8 c8] 24) (.cells #[.int .i64 A.2.1, .int .i64 A.2.2] 27)).mono hb8.size)
    obtain ⟨q1, q2, q3, q4, q5⟩ := HA7.out
    exact ⟨by rw [hb3.block _ (lt_block q1)]; exact q1, q2.next hb3, q3.trans (hb3.mono q3.size), q4.next hb3, q5.next hb3, TV.start hn8 hI8⟩
  have v8 := blk (i := 0) HA8.out.2.2.2.2.2.var rfl
  have v2 := blk (i := 0) HA8.out.2.1.var rfl
  have HWj : Hid (Calls Try.prog 11 #[.agg #[.slice a8 n8 c8], .agg #[.slice a2 n2 c2]] ((w8.alloc (.cells #[.slice a8 n8 c8] 24)).alloc (.cells #[.int .i64 A.2.1, .int .i64 A.2.2] 27)) fun e' w' => e' = .returned (.bool true) ∧ Below ((w8.alloc (.cells #[.slice a8 n8 c8] 24)).alloc (.cells #[.int .i64 A.2.1, .int .i64 A.2.2] 27)).heap.size ((w8.alloc (.cells #[.slice a8 n8 c8] 24)).alloc (.cells #[.int .i64 A.2.1, .int .i64 A.2.2] 27)) w') := whole_same A.1 a8 a2 n8 c8 n2 c2 _ true true _ _ HA8.out.2.2.2.2.2.its HA8.out.2.1.its (Nat.le_trans HA8.out.2.2.2.2.2.few HM.out) (Nat.le_trans HA8.out.2.1.few HM.out)
  clear hn8 hI8 hb8 HA7
  go_wp2_with fail
  generalize ((w8.alloc (.cells #[.slice a8 n8 c8] 24)).alloc (.cells #[.int .i64 A.2.1, .int .i64 A.2.2] 27)) = W8 at *
  refine HWj.out.mono ?_
  rintro e w9 ⟨rfl, hb9⟩
  have HA9 : Hid (w9.heap[w1.heap.size + 1]? = some (.cells #[.int .i64 A.2.1, .int .i64 A.2.2] 27 (0, 0)) ∧ TV w2.heap.size A.1 A.2 W1.heap.size w2.heap.size a2 n2 c2 w9 ∧ Below w.heap.size w w9 ∧ TV w5.heap.size C.1 C.2 w4.heap.size w5.heap.size a5 n5 c5 w9 ∧ TV w6.heap.size C.1 C.2 W5.heap.size w6.heap.size a6 n6 c6 w9 ∧ TV w8.heap.size A.1 A.2 w7.heap.size w8.heap.size a8 n8 c8 w9) := by
    obtain ⟨q1, q2, q3, q4, q5, q6⟩ := HA8.out
    exact ⟨by rw [hb9.block _ (lt_block q1)]; exact q1, q2.next hb9, q3.trans (hb9.mono q3.size), q4.next hb9, q5.next hb9, q6.next hb9⟩
  obtain ⟨q1, q2, q3, q4, q5, q6⟩ := HA9.out
  have e0 := blk (i := 0) q1 rfl
  have e1 := blk (i := 1) q1 rfl
  have f0 := blk (i := 0) q2.flt rfl
  have f1 := blk (i := 1) q2.flt rfl
  have g0 := blk (i := 0) q4.flt rfl
  have g1 := blk (i := 1) q4.flt rfl
  have h0 := blk (i := 0) q5.flt rfl
  have h1 := blk (i := 1) q5.flt rfl
  have i0 := blk (i := 0) q6.flt rfl
  have i1 := blk (i := 1) q6.flt rfl
  have HBf : Hid (Below w.heap.size w w9) := q3
  clear q1 q2 q3 q4 q5 q6 hb9 HA8 HA9 HWj v8 v2 HP HQ HP2 HQ2 HM
  generalize A.2.1 = x1 at *
  generalize A.2.2 = x2 at *
  generalize C.2.1 = y1 at *
  generalize C.2.2 = y2 at *
  go_wp2
  go_ret
  exact ⟨rfl, HBf.out⟩

namespace syntaxParses
open Go.ChangeShapes Go.WideShapes Go.ChangeAt Go.RowKit
open Go.ChangeMaps (open_string shut_string)
theorem own : ownKnob Try.prog.godebug = none := by kernel_rfl

set_option maxRecDepth 100000 in
theorem lifted (os : Os) (started : os.Started) (H : Type) (enc : TypeId × Value → H) :
    ReturnsInHanded {} Try.checked os 3 .any (Rows.syntaxParsesSpec.pre6 enc Try.prog Try.f3 Rows.syntaxParsesRow.domain false) (Rows.syntaxParsesSpec.post enc Try.prog Try.f3 false true false false) := by
  refine returnsInHanded_of_change (C := Try.checked) own started (by kernel_rfl) Try.func3
    (ChangeSpec.witness6 (enc := enc) (C := Try.checked) false ⟨#[], #[.string ByteArray.empty, .string ByteArray.empty], []⟩ 8 (by kernel_rfl) (by kernel_rfl) (by kernel_rfl) (by kernel_rfl)) ?_
  intro W base args ds gs before hval0 hW _ _
  have hval : ∀ (j : Nat) t v, Try.f3.params[j]? = some t → args[j]? = some v → Value.okWide Try.prog W .any base t v := hval0
  have hW' := hW
  obtain ⟨p, q, hA0, hV, rfl, hfz, hnd⟩ := hW
  have hA : DataW.TrodAll enc Try.prog W 0 (fun _ => true) true Try.f3.params.toList args.toList ds p := hA0
  rw [Try.params3] at hA hval
  obtain ⟨v0, vs0, d0, ds0, p0, q0, hargs, rfl, rfl, h0, r0⟩ := trodAll_cons hA
  obtain ⟨v1, vs1, d1, ds1, p1, q1, rfl, rfl, rfl, h1, r1⟩ := trodAll_cons r0
  obtain ⟨rfl, rfl, rfl⟩ := trodAll_nil r1
  obtain rfl : args = #[v0, v1] := by cases args; simp_all
  obtain ⟨rfl, rfl⟩ := trodVars_none hV
  obtain ⟨a0, rfl, rfl, rfl, w0⟩ := open_string Try.underlying9 (hval 0 9 v0 rfl rfl) h0
  obtain ⟨a1, rfl, rfl, rfl, w1⟩ := open_string Try.underlying9 (hval 1 9 v1 rfl rfl) h1
  clear hA0 hval0
  refine (parses_walk a0 a1 W w0 w1).mono fun e W' ⟨he, bel⟩ => ?_
  subst he
  exact ⟨_, rfl, _, _, _, [], _, [], hW', trodAll_mk1 (shut_bool Try.underlying4 _), (trodAll_cons_mk (shut_string Try.underlying9 w0) (trodAll_cons_mk (shut_string Try.underlying9 w1) trodAll_mk0)), rfl, bel.frame _, fun h => by cases h⟩
end syntaxParses

theorem syntaxParses_holds : Rows.SyntaxParsesSaid :=
  OpenClaim.holds_of_wide 3 Try.f3 rfl rfl rfl rfl rfl rfl rfl ⟨rfl, rfl, rfl, rfl, rfl⟩ rfl rfl rfl rfl rfl (by kernel_rfl) Try.func3 (by kernel_rfl)
    (of_decide_eq_true (by kernel_rfl)) (by unfold Func.isWrapper; first | (rw [if_pos (by decide +kernel)]; kernel_rfl) | (rw [if_neg (by decide +kernel)]; exact ⟨rfl, rfl⟩))
    (fun os started H enc _ => syntaxParses.lifted os started H enc)
end Go.Proofs.Ytnnmhmlebffacaa
