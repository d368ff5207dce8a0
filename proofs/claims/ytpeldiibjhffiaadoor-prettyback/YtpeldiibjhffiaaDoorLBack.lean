/-
  PrettyBack is proved for every input: what is said of a tree is read as it, and printed as that again; two trees of one text are the same. Its conditions are the row's own: what is handed in reads as data, and the tables that the standard library reads are as its text lays them.
-/
import Derived.Test.YtpeldiibjhffiaaDoorRows
import Derived.Test.YtpeldiibjhffiaaDoorCards
import Derived.Test.YtpeldiibjhffiaaDoorTie
import Derived.SevenTiedAt
import Derived.Test.YtpeldiibjhffiaaDoorOvr
import Derived.Test.YtpeldiibjhffiaaDoorG37
import Derived.Test.YtpeldiibjhffiaaDoorG33
namespace Go.Proofs.YtpeldiibjhffiaaDoor
open Go.RowKit Go.Deep

theorem below_st {w W W' : World} {p q : Obj} (h : Below w.heap.size w W ∧ W.heap[w.heap.size]? = some p ∧ W.heap[w.heap.size + 1]? = some q) (hb : Below W.heap.size W W') : Below w.heap.size w W' ∧ W'.heap[w.heap.size]? = some p ∧ W'.heap[w.heap.size + 1]? = some q :=
  ⟨h.1.trans (hb.mono h.1.size), by rw [hb.block _ (lt_block h.2.1)]; exact h.2.1, by rw [hb.block _ (lt_block h.2.2)]; exact h.2.2⟩
theorem below_st2 {w W W' : World} {g : Nat} {p q r s : Obj} (h : (Below w.heap.size w W ∧ W.heap[w.heap.size]? = some p ∧ W.heap[w.heap.size + 1]? = some q) ∧ W.heap[g]? = some r ∧ W.heap[g + 1]? = some s) (hb : Below W.heap.size W W') : (Below w.heap.size w W' ∧ W'.heap[w.heap.size]? = some p ∧ W'.heap[w.heap.size + 1]? = some q) ∧ W'.heap[g]? = some r ∧ W'.heap[g + 1]? = some s :=
  ⟨below_st h.1 hb, by rw [hb.block _ (lt_block h.2.1)]; exact h.2.1, by rw [hb.block _ (lt_block h.2.2)]; exact h.2.2⟩

set_option maxRecDepth 20000 in
set_option maxHeartbeats 4000000 in
theorem back_tree (L : List It) (ao : Option Addr) (n c : Nat) (M : List It) (bo : Option Addr) (m d : Nat) (w : World) (htab : TabOk w) (hL : TreeIn w L ao n) (hM : TreeIn w M bo m) (hr : treeRight L = false) (hp : printB L = ([], 80)) :
    Calls Tryd.prog 4 #[.agg #[.slice ao n c], .agg #[.slice bo m d]] w fun e w' => e = .returned (.bool true) ∧ Below w.heap.size w w' := by
  have hn : n ≤ maxLen := by have := hL.few; unfold mxI at this; unfold maxLen; omega
  have hm : m ≤ maxLen := by have := hM.few; unfold mxI at this; unfold maxLen; omega
  have HA : Hid (∀ W, Below w.heap.size w W → Calls Tryd.prog 10 #[] W fun e w' => e = .returned (.bool true) ∧ Below W.heap.size W w') := fun W hW => awake_calls W (htab.below hW)
  have HR : Hid (∀ W, Below w.heap.size w W → Calls Tryd.prog 11 #[.agg #[.slice ao n c]] W fun e w' => e = .returned (.bool false) ∧ Below W.heap.size W w') := fun W hW => by
    have := right_calls L ao n c W (hL.its.below hW) hn
    rw [hr] at this
    exact this
  have HPa : Hid (∀ W, Below w.heap.size w W → Calls Tryd.prog 8 #[.agg #[.slice ao n c]] W fun e w' => e = .returned (.tuple #[.string ⟨#[]⟩, .int .i64 80]) ∧ Below W.heap.size W w') := fun W hW => by
    have := text_bs (print_calls L ao n c W (hL.its.below hW) hn (htab.below hW))
    rw [hp] at this
    exact this
  have HV : Hid (Below w.heap.size w ((w.alloc (.cells #[.slice ao n c] 24)).alloc (.cells #[.slice bo m d] 24)) ∧ ((w.alloc (.cells #[.slice ao n c] 24)).alloc (.cells #[.slice bo m d] 24)).heap[w.heap.size]? = some (.cells #[.slice ao n c] 24 (0, 0)) ∧ ((w.alloc (.cells #[.slice ao n c] 24)).alloc (.cells #[.slice bo m d] 24)).heap[w.heap.size + 1]? = some (.cells #[.slice bo m d] 24 (0, 0))) := ⟨below_two w _ _, heap_old (heap_alloc_new w _), twoN_new w _ _⟩
  clear hL hM hn hm htab hr hp
  go_enter Tryd.func4, Tryd.ntmps4
  go_wp2_with fail
  refine (HA.out _ HV.out.1).mono ?_
  rintro e w1 ⟨rfl, hb1⟩
  have H1 : Hid (Below w.heap.size w w1 ∧ w1.heap[w.heap.size]? = some (.cells #[.slice ao n c] 24 (0, 0)) ∧ w1.heap[w.heap.size + 1]? = some (.cells #[.slice bo m d] 24 (0, 0))) := below_st HV.out hb1
  clear hb1 HV HA
  have x := blk (i := 0) H1.out.2.1 rfl
  go_wp2_with fail
  refine (HR.out _ H1.out.1).mono ?_
  rintro e w2 ⟨rfl, hb2⟩
  have H2 : Hid (Below w.heap.size w w2 ∧ w2.heap[w.heap.size]? = some (.cells #[.slice ao n c] 24 (0, 0)) ∧ w2.heap[w.heap.size + 1]? = some (.cells #[.slice bo m d] 24 (0, 0))) := below_st H1.out hb2
  clear hb2 H1 HR x
  have x := blk (i := 0) H2.out.2.1 rfl
  go_wp2_with fail
  refine (HPa.out _ H2.out.1).mono ?_
  rintro e w3 ⟨rfl, hb3⟩
  have H3 : Hid (Below w.heap.size w w3 ∧ w3.heap[w.heap.size]? = some (.cells #[.slice ao n c] 24 (0, 0)) ∧ w3.heap[w.heap.size + 1]? = some (.cells #[.slice bo m d] 24 (0, 0))) := below_st H2.out hb3
  clear hb3 H2 HPa x
  have HB : Hid (Below w.heap.size w w3) := H3.out.1
  clear H3
  go_wp2
  go_ret
  exact ⟨rfl, HB.out⟩
set_option maxRecDepth 20000 in
set_option maxHeartbeats 4000000 in
theorem back_long (L : List It) (ao : Option Addr) (n c : Nat) (M : List It) (bo : Option Addr) (m d : Nat) (w : World) (htab : TabOk w) (hL : TreeIn w L ao n) (hM : TreeIn w M bo m) (hr : treeRight L = true) (hp : printB L = ([], 2)) :
    Calls Tryd.prog 4 #[.agg #[.slice ao n c], .agg #[.slice bo m d]] w fun e w' => e = .returned (.bool true) ∧ Below w.heap.size w w' := by
  have hn : n ≤ maxLen := by have := hL.few; unfold mxI at this; unfold maxLen; omega
  have hm : m ≤ maxLen := by have := hM.few; unfold mxI at this; unfold maxLen; omega
  have HA : Hid (∀ W, Below w.heap.size w W → Calls Tryd.prog 10 #[] W fun e w' => e = .returned (.bool true) ∧ Below W.heap.size W w') := fun W hW => awake_calls W (htab.below hW)
  have HR : Hid (∀ W, Below w.heap.size w W → Calls Tryd.prog 11 #[.agg #[.slice ao n c]] W fun e w' => e = .returned (.bool true) ∧ Below W.heap.size W w') := fun W hW => by
    have := right_calls L ao n c W (hL.its.below hW) hn
    rw [hr] at this
    exact this
  have HPa : Hid (∀ W, Below w.heap.size w W → Calls Tryd.prog 8 #[.agg #[.slice ao n c]] W fun e w' => e = .returned (.tuple #[.string ⟨#[]⟩, .int .i64 2]) ∧ Below W.heap.size W w') := fun W hW => by
    have := text_bs (print_calls L ao n c W (hL.its.below hW) hn (htab.below hW))
    rw [hp] at this
    exact this
  have HV : Hid (Below w.heap.size w ((w.alloc (.cells #[.slice ao n c] 24)).alloc (.cells #[.slice bo m d] 24)) ∧ ((w.alloc (.cells #[.slice ao n c] 24)).alloc (.cells #[.slice bo m d] 24)).heap[w.heap.size]? = some (.cells #[.slice ao n c] 24 (0, 0)) ∧ ((w.alloc (.cells #[.slice ao n c] 24)).alloc (.cells #[.slice bo m d] 24)).heap[w.heap.size + 1]? = some (.cells #[.slice bo m d] 24 (0, 0))) := ⟨below_two w _ _, heap_old (heap_alloc_new w _), twoN_new w _ _⟩
  clear hL hM hn hm htab hr hp
  go_enter Tryd.func4, Tryd.ntmps4
  go_wp2_with fail
  refine (HA.out _ HV.out.1).mono ?_
  rintro e w1 ⟨rfl, hb1⟩
  have H1 : Hid (Below w.heap.size w w1 ∧ w1.heap[w.heap.size]? = some (.cells #[.slice ao n c] 24 (0, 0)) ∧ w1.heap[w.heap.size + 1]? = some (.cells #[.slice bo m d] 24 (0, 0))) := below_st HV.out hb1
  clear hb1 HV HA
  have x := blk (i := 0) H1.out.2.1 rfl
  go_wp2_with fail
  refine (HR.out _ H1.out.1).mono ?_
  rintro e w2 ⟨rfl, hb2⟩
  have H2 : Hid (Below w.heap.size w w2 ∧ w2.heap[w.heap.size]? = some (.cells #[.slice ao n c] 24 (0, 0)) ∧ w2.heap[w.heap.size + 1]? = some (.cells #[.slice bo m d] 24 (0, 0))) := below_st H1.out hb2
  clear hb2 H1 HR x
  have x := blk (i := 0) H2.out.2.1 rfl
  go_wp2_with fail
  refine (HPa.out _ H2.out.1).mono ?_
  rintro e w3 ⟨rfl, hb3⟩
  have H3 : Hid (Below w.heap.size w w3 ∧ w3.heap[w.heap.size]? = some (.cells #[.slice ao n c] 24 (0, 0)) ∧ w3.heap[w.heap.size + 1]? = some (.cells #[.slice bo m d] 24 (0, 0))) := below_st H2.out hb3
  clear hb3 H2 HPa x
  have HB : Hid (Below w.heap.size w w3) := H3.out.1
  clear H3
  go_wp2
  go_ret
  exact ⟨rfl, HB.out⟩
set_option maxRecDepth 20000 in
set_option maxHeartbeats 4000000 in
theorem back_read (L : List It) (ao : Option Addr) (n c : Nat) (M : List It) (bo : Option Addr) (m d : Nat) (w : World) (htab : TabOk w) (hL : TreeIn w L ao n) (hM : TreeIn w M bo m) (S : List UInt8) (hr : treeRight L = true) (hp : printB L = (S, 0)) :
    Calls Tryd.prog 4 #[.agg #[.slice ao n c], .agg #[.slice bo m d]] w fun e w' => e = .returned (.bool true) ∧ Below w.heap.size w w' := by
  have hn : n ≤ maxLen := by have := hL.few; unfold mxI at this; unfold maxLen; omega
  have hm : m ≤ maxLen := by have := hM.few; unfold mxI at this; unfold maxLen; omega
  have HA : Hid (∀ W, Below w.heap.size w W → Calls Tryd.prog 10 #[] W fun e w' => e = .returned (.bool true) ∧ Below W.heap.size W w') := fun W hW => awake_calls W (htab.below hW)
  have HR : Hid (∀ W, Below w.heap.size w W → Calls Tryd.prog 11 #[.agg #[.slice ao n c]] W fun e w' => e = .returned (.bool true) ∧ Below W.heap.size W w') := fun W hW => by
    have := right_calls L ao n c W (hL.its.below hW) hn
    rw [hr] at this
    exact this
  have HPa : Hid (∀ W, Below w.heap.size w W → Calls Tryd.prog 8 #[.agg #[.slice ao n c]] W fun e w' => e = .returned (.tuple #[.string (bs S), .int .i64 0]) ∧ Below W.heap.size W w') := fun W hW => by
    have := text_bs (print_calls L ao n c W (hL.its.below hW) hn (htab.below hW))
    rw [hp] at this
    exact this
  obtain ⟨q1, q2, q3⟩ := print_read hp
  have hqr := (printB_ok hp).2.2
  have HPp : Hid (∀ W, Below w.heap.size w W → Calls Tryd.prog 12 #[.string (bs S)] W fun e w' => ∃ ta tn tc pl, e = .returned (.tuple #[.agg #[.slice ta tn tc], .agg #[.int .i64 0, .int .i64 pl]]) ∧ tn ≤ 4002 ∧ ItsAt true (fun g => W.heap.size ≤ g) w' (parseW S).1 ta tn ∧ Below W.heap.size W w') := fun W hW => by
    have := parse_calls (bs S) W
    rw [bs_data] at this
    refine this.mono ?_
    rintro e w' ⟨ta, tn, tc, rfl, htn, hI, hb⟩
    rw [q1]
    exact ⟨ta, tn, tc, _, rfl, htn, hI, hb⟩
  have HSt : Hid (∀ W ta tn tc, Below w.heap.size w W → tn ≤ 4002 → (∃ X : Nat → Prop, ItsAt true X W (parseW S).1 ta tn) → Calls Tryd.prog 13 #[.agg #[.slice ta tn tc], .agg #[.slice ao n c]] W fun e w' => e = .returned (.bool true) ∧ Below W.heap.size W w') := fun W ta tn tc hW ht ⟨X, hI⟩ => by
    have := same_calls (parseW S).1 L ta ao tn tc n c W true false X _ hI (hL.its.below hW) (by unfold maxLen; omega) hn
    rw [q2] at this
    exact this
  have HPt : Hid (∀ W ta tn tc, Below w.heap.size w W → tn ≤ 4002 → (∃ X : Nat → Prop, ItsAt true X W (parseW S).1 ta tn) → Calls Tryd.prog 8 #[.agg #[.slice ta tn tc]] W fun e w' => e = .returned (.tuple #[.string (bs S), .int .i64 0]) ∧ Below W.heap.size W w') := fun W ta tn tc hW ht ⟨X, hI⟩ => by
    have := text_bs (print_calls (parseW S).1 ta tn tc W hI (by unfold maxLen; omega) (htab.below hW))
    rw [q3] at this
    exact this
  have HPb : Hid (∀ W, Below w.heap.size w W → Calls Tryd.prog 8 #[.agg #[.slice bo m d]] W fun e w' => e = .returned (.tuple #[.string (bs (printB M).1), .int .i64 (printB M).2]) ∧ Below W.heap.size W w') := fun W hW => text_bs (print_calls M bo m d W (hM.its.below hW) hm (htab.below hW))
  have HSab : Hid ((printB M).2 = 0 → bs (printB M).1 = bs S → ∀ W, Below w.heap.size w W → Calls Tryd.prog 13 #[.agg #[.slice ao n c], .agg #[.slice bo m d]] W fun e w' => e = .returned (.bool true) ∧ Below W.heap.size W w') := fun hz hs W hW => by
    have := same_calls L M ao bo n c m d W false false _ _ (hL.its.below hW) (hM.its.below hW) hn hm
    have e1 : (printB M).1 = S := by
      have := congrArg (fun b : ByteArray => b.data.toList) hs
      simpa [bs_data] using this
    rw [print_twice hp (show printB M = (S, 0) from by rw [← e1, ← hz])] at this
    exact this
  have hsz : (bs S).size ≤ 4000 := by
    have : (bs S).size = S.length := by
      rw [← ByteArray.size_data, ← Array.length_toList, bs_data]
    omega
  generalize bs (printB M).1 = s2 at *
  generalize (printB M).2 = z2 at *
  generalize bs S = sS at *
  have hd4 : decide ((sS.size : Int) ≤ (4000 : Int)) = true := by simp only [decide_eq_true_eq]; omega
  generalize (parseW S).1 = L' at *
  clear q1 q2 q3 hqr
  have HV : Hid (Below w.heap.size w ((w.alloc (.cells #[.slice ao n c] 24)).alloc (.cells #[.slice bo m d] 24)) ∧ ((w.alloc (.cells #[.slice ao n c] 24)).alloc (.cells #[.slice bo m d] 24)).heap[w.heap.size]? = some (.cells #[.slice ao n c] 24 (0, 0)) ∧ ((w.alloc (.cells #[.slice ao n c] 24)).alloc (.cells #[.slice bo m d] 24)).heap[w.heap.size + 1]? = some (.cells #[.slice bo m d] 24 (0, 0))) := ⟨below_two w _ _, heap_old (heap_alloc_new w _), twoN_new w _ _⟩
  clear hL hM hn hm htab hr hp
  go_enter Tryd.func4, Tryd.ntmps4
  go_wp2_with fail
  refine (HA.out _ HV.out.1).mono ?_
  rintro e w1 ⟨rfl, hb1⟩
  have H1 : Hid (Below w.heap.size w w1 ∧ w1.heap[w.heap.size]? = some (.cells #[.slice ao n c] 24 (0, 0)) ∧ w1.heap[w.heap.size + 1]? = some (.cells #[.slice bo m d] 24 (0, 0))) := below_st HV.out hb1
  clear hb1 HV HA
  have x := blk (i := 0) H1.out.2.1 rfl
  go_wp2_with fail
  refine (HR.out _ H1.out.1).mono ?_
  rintro e w2 ⟨rfl, hb2⟩
  have H2 : Hid (Below w.heap.size w w2 ∧ w2.heap[w.heap.size]? = some (.cells #[.slice ao n c] 24 (0, 0)) ∧ w2.heap[w.heap.size + 1]? = some (.cells #[.slice bo m d] 24 (0, 0))) := below_st H1.out hb2
  clear hb2 H1 HR x
  have x := blk (i := 0) H2.out.2.1 rfl
  go_wp2_with fail
  refine (HPa.out _ H2.out.1).mono ?_
  rintro e w3 ⟨rfl, hb3⟩
  have H3 : Hid (Below w.heap.size w w3 ∧ w3.heap[w.heap.size]? = some (.cells #[.slice ao n c] 24 (0, 0)) ∧ w3.heap[w.heap.size + 1]? = some (.cells #[.slice bo m d] 24 (0, 0))) := below_st H2.out hb3
  clear hb3 H2 HPa x
  go_wp2_with fail
  refine (HPp.out _ H3.out.1).mono ?_
  rintro e w4 ⟨ta, tn, tc, pl, rfl, htn, hI, hb4⟩
  have h4 := below_st H3.out hb4
  have hb42 := below_two w4 (.cells #[.slice ta tn tc] 24) (.cells #[.int .i64 0, .int .i64 pl] 32)
  have H5 : Hid ((Below w.heap.size w ((w4.alloc (.cells #[.slice ta tn tc] 24)).alloc (.cells #[.int .i64 0, .int .i64 pl] 32)) ∧ ((w4.alloc (.cells #[.slice ta tn tc] 24)).alloc (.cells #[.int .i64 0, .int .i64 pl] 32)).heap[w.heap.size]? = some (.cells #[.slice ao n c] 24 (0, 0)) ∧ ((w4.alloc (.cells #[.slice ta tn tc] 24)).alloc (.cells #[.int .i64 0, .int .i64 pl] 32)).heap[w.heap.size + 1]? = some (.cells #[.slice bo m d] 24 (0, 0))) ∧ ((w4.alloc (.cells #[.slice ta tn tc] 24)).alloc (.cells #[.int .i64 0, .int .i64 pl] 32)).heap[w4.heap.size]? = some (.cells #[.slice ta tn tc] 24 (0, 0)) ∧ ((w4.alloc (.cells #[.slice ta tn tc] 24)).alloc (.cells #[.int .i64 0, .int .i64 pl] 32)).heap[w4.heap.size + 1]? = some (.cells #[.int .i64 0, .int .i64 pl] 32 (0, 0))) := ⟨below_st h4 hb42, heap_old (heap_alloc_new w4 _), twoN_new w4 _ _⟩
  have HI : Hid (ItsAt true (fun g => w3.heap.size ≤ g) ((w4.alloc (.cells #[.slice ta tn tc] 24)).alloc (.cells #[.int .i64 0, .int .i64 pl] 32)) L' ta tn) := hI.below hb42
  have x := blk (i := 0) H5.out.1.2.1 rfl
  have HSt2 : Hid (Calls Tryd.prog 13 #[.agg #[.slice ta tn tc], .agg #[.slice ao n c]] ((w4.alloc (.cells #[.slice ta tn tc] 24)).alloc (.cells #[.int .i64 0, .int .i64 pl] 32)) fun e w' => e = .returned (.bool true) ∧ Below ((w4.alloc (.cells #[.slice ta tn tc] 24)).alloc (.cells #[.int .i64 0, .int .i64 pl] 32)).heap.size ((w4.alloc (.cells #[.slice ta tn tc] 24)).alloc (.cells #[.int .i64 0, .int .i64 pl] 32)) w') := HSt.out _ _ _ _ H5.out.1.1 htn ⟨_, HI.out⟩
  have HN : Hid (tn ≤ 4002) := htn
  clear h4 hb42 hI hb4 htn H3 HPp HSt
  go_wp2_with fail
  refine HSt2.out.mono ?_
  rintro e w6 ⟨rfl, hb6⟩
  have H6 : Hid ((Below w.heap.size w w6 ∧ w6.heap[w.heap.size]? = some (.cells #[.slice ao n c] 24 (0, 0)) ∧ w6.heap[w.heap.size + 1]? = some (.cells #[.slice bo m d] 24 (0, 0))) ∧ w6.heap[w4.heap.size]? = some (.cells #[.slice ta tn tc] 24 (0, 0)) ∧ w6.heap[w4.heap.size + 1]? = some (.cells #[.int .i64 0, .int .i64 pl] 32 (0, 0))) := below_st2 H5.out hb6
  have HI6 : Hid (ItsAt true (fun g => w3.heap.size ≤ g) w6 L' ta tn) := HI.out.below hb6
  clear hb6 HI HSt2 H5 x
  have x := blk (i := 0) H6.out.2.1 rfl
  go_wp2_with fail
  refine (HPt.out _ _ _ _ H6.out.1.1 HN.out ⟨_, HI6.out⟩).mono ?_
  rintro e w7 ⟨rfl, hb7⟩
  have H7 : Hid ((Below w.heap.size w w7 ∧ w7.heap[w.heap.size]? = some (.cells #[.slice ao n c] 24 (0, 0)) ∧ w7.heap[w.heap.size + 1]? = some (.cells #[.slice bo m d] 24 (0, 0))) ∧ w7.heap[w4.heap.size]? = some (.cells #[.slice ta tn tc] 24 (0, 0)) ∧ w7.heap[w4.heap.size + 1]? = some (.cells #[.int .i64 0, .int .i64 pl] 32 (0, 0))) := below_st2 H6.out hb7
  clear hb7 H6 HI6 HPt x
  have x := blk (i := 0) H7.out.1.2.2 rfl
  go_wp2_with fail
  refine (HPb.out _ H7.out.1.1).mono ?_
  rintro e w8 ⟨rfl, hb8⟩
  have H8 : Hid ((Below w.heap.size w w8 ∧ w8.heap[w.heap.size]? = some (.cells #[.slice ao n c] 24 (0, 0)) ∧ w8.heap[w.heap.size + 1]? = some (.cells #[.slice bo m d] 24 (0, 0))) ∧ w8.heap[w4.heap.size]? = some (.cells #[.slice ta tn tc] 24 (0, 0)) ∧ w8.heap[w4.heap.size + 1]? = some (.cells #[.int .i64 0, .int .i64 pl] 32 (0, 0))) := below_st2 H7.out hb8
  clear hb8 H7 HPb x
  have x := blk (i := 0) H8.out.1.2.1 rfl
  have y := blk (i := 0) H8.out.1.2.2 rfl
  have f := blk (i := 0) H8.out.2.2 rfl
  by_cases hz : z2 = 0
  · subst hz
    by_cases hs : s2 = sS
    · subst hs
      have HS2 := HSab.out rfl rfl
      have HS3 : Hid (∀ W, Below w.heap.size w W → Calls Tryd.prog 13 #[.agg #[.slice ao n c], .agg #[.slice bo m d]] W fun e w' => e = .returned (.bool true) ∧ Below W.heap.size W w') := HS2
      clear HS2 HSab f
      go_wp2_with fail
      refine (HS3.out _ H8.out.1.1).mono ?_
      rintro e w9 ⟨rfl, hb9⟩
      have H9 : Hid ((Below w.heap.size w w9 ∧ w9.heap[w.heap.size]? = some (.cells #[.slice ao n c] 24 (0, 0)) ∧ w9.heap[w.heap.size + 1]? = some (.cells #[.slice bo m d] 24 (0, 0))) ∧ w9.heap[w4.heap.size]? = some (.cells #[.slice ta tn tc] 24 (0, 0)) ∧ w9.heap[w4.heap.size + 1]? = some (.cells #[.int .i64 0, .int .i64 pl] 32 (0, 0))) := below_st2 H8.out hb9
      clear hb9 H8 HS3 x y
      have f := blk (i := 0) H9.out.2.2 rfl
      have HB : Hid (Below w.heap.size w w9) := H9.out.1.1
      clear H9
      go_wp2
      go_ret
      exact ⟨rfl, HB.out⟩
    · have hs2 : (s2.toList == sS.toList) = false := by
        rw [Bool.eq_false_iff]
        intro h
        have h2 : s2.toList = sS.toList := by simpa using h
        rw [ByteArray.toList_eq, ByteArray.toList_eq] at h2
        exact hs (ByteArray.ext (Array.toList_inj.1 h2))
      have HB : Hid (Below w.heap.size w w8) := H8.out.1.1
      clear hs HSab H8 x y
      go_wp2
      go_ret
      exact ⟨rfl, HB.out⟩
  · have hz2 : (z2 == 0) = false := by simpa using hz
    have HB : Hid (Below w.heap.size w w8) := H8.out.1.1
    clear hz HSab H8 x y
    go_wp2
    go_ret
    exact ⟨rfl, HB.out⟩
theorem back_walk (L : List It) (ao : Option Addr) (n c : Nat) (M : List It) (bo : Option Addr) (m d : Nat) (w : World) (htab : TabOk w) (hL : TreeIn w L ao n) (hM : TreeIn w M bo m) :
    Calls Tryd.prog 4 #[.agg #[.slice ao n c], .agg #[.slice bo m d]] w fun e w' => e = .returned (.bool true) ∧ Below w.heap.size w w' := by
  cases hr : treeRight L with
  | false => exact back_tree L ao n c M bo m d w htab hL hM hr (by unfold printB; rw [hr]; rfl)
  | true =>
    by_cases hl : (treeB L).length ≤ 4000
    · exact back_read L ao n c M bo m d w htab hL hM (treeB L) hr (by unfold printB; rw [hr, if_pos rfl, if_pos hl])
    · exact back_long L ao n c M bo m d w htab hL hM hr (by unfold printB; rw [hr, if_pos rfl, if_neg hl])


namespace prettyBack
open Go.ChangeShapes Go.WideShapes Go.ChangeAt Go.RowKit
open Go.ChangeMaps (open_string shut_string)

set_option maxRecDepth 100000 in
theorem lifted (os : Os) (started : os.Started) (H : Type) (enc : TypeId × Value → H) :
    ReturnsInHanded {} Tryd.checked os 4 .any (fun w args => (Rows.prettyBackSpec.pre enc Tryd.prog Tryd.f4 [] false w args ∧ laidMetH Tryd.prog theLaid w) ∧ sizedMet enc Tryd.prog Tryd.f4 (OpenSpec.ofChange Rows.prettyBackSpec) false w args)
      (Rows.prettyBackSpec.post enc Tryd.prog Tryd.f4 false true false false) := by
  refine returnsInHanded_of_change_and (C := Tryd.checked) (X := fun w _ => laidMetH Tryd.prog theLaid w) (fun _ _ _ hh h => h.of_heap hh) own started (by kernel_rfl) Tryd.func4
    (ChangeSpec.witness_shaped (enc := enc) (C := Tryd.checked) (os := os) (X := fun w _ => laidMetH Tryd.prog theLaid w) false (World.doorLaid Tryd.prog 400 os) #[.agg #[.slice none 0 0], .agg #[.slice none 0 0]] 8 rfl (World.shaped_of_RefB (by kernel_rfl) (by kernel_rfl)) (by kernel_rfl) (by kernel_rfl) (by kernel_rfl) (door_met os _)) ?_
  intro W base args ds gs before hval0 hW _ hsz0 hL _
  have hval : ∀ (j : Nat) t v, Tryd.f4.params[j]? = some t → args[j]? = some v → Value.okWide Tryd.prog W .any base t v := hval0
  have hsz : (DataW.weightsEach Tryd.prog (Tryd.f4.params.toList ++ Rows.prettyBackSpec.plain.varTypes Tryd.prog) (ds ++ gs)).all (· ≤ reachBytes) = true := hsz0
  have hW' := hW
  obtain ⟨p, q, hA0, hV, rfl, hfz, hnd⟩ := hW
  have hA : DataW.TrodAll enc Tryd.prog W 0 (fun _ => true) true Tryd.f4.params.toList args.toList ds p := hA0
  rw [Tryd.params4] at hA hval hsz
  obtain ⟨v0, vs0, d0, ds0, p0, q0, hargs, rfl, rfl, h0, r0⟩ := trodAll_cons hA
  obtain ⟨v1, vs1, d1, ds1, p1, q1, rfl, rfl, rfl, h1, r1⟩ := trodAll_cons r0
  obtain ⟨rfl, rfl, rfl⟩ := trodAll_nil r1
  obtain rfl : args = #[v0, v1] := by cases args; simp_all
  obtain ⟨rfl, rfl⟩ := trodVars_none hV
  have hw : ∀ (j : Nat) (t : TypeId) (d : DataW H), ([24, 24] ++ Rows.prettyBackSpec.plain.varTypes Tryd.prog)[j]? = some t → ([d0, d1] ++ [])[j]? = some d → ∀ n ∈ d.weights Tryd.prog t, n ≤ reachBytes := fun j t d ht hd n hn =>
    of_decide_eq_true (List.all_eq_true.1 hsz _ (DataW.weights_mem_each ht hd n hn))
  obtain ⟨cs0, rfl, hcs0⟩ := okWide_struct Tryd.underlying24 (hval 0 24 v0 rfl rfl)
  have lt0 : ∀ x ∈ p0, x.block < W.heap.size := by obtain ⟨m, hm⟩ := h0; exact DataW.trod_lt m _ _ _ hm
  obtain ⟨a0, len0, cap0, L0, e0, w0⟩ := tree_in hcs0 h0 (hw 0 24 d0 rfl rfl)
  obtain ⟨cs1, rfl, hcs1⟩ := okWide_struct Tryd.underlying24 (hval 1 24 v1 rfl rfl)
  have lt1 : ∀ x ∈ p1, x.block < W.heap.size := by obtain ⟨m, hm⟩ := h1; exact DataW.trod_lt m _ _ _ hm
  obtain ⟨a1, len1, cap1, L1, e1, w1⟩ := tree_in hcs1 h1 (hw 1 24 d1 rfl rfl)
  subst e0 e1
  clear hA0 hval0
  refine (back_walk L0 a0 len0 cap0 L1 a1 len1 cap1 W (tab_of_laid hL) w0 w1).mono fun e W' ⟨he, bel⟩ => ?_
  subst he
  exact ⟨_, rfl, _, _, _, [], _, [], hW', trodAll_mk1 (shut_bool Tryd.underlying4 _), (trodAll_cons_mk (Below.trod laidOut (by kernel_rfl) (of_decide_eq_true (by kernel_rfl)) h0 bel lt0) (trodAll_cons_mk (Below.trod laidOut (by kernel_rfl) (of_decide_eq_true (by kernel_rfl)) h1 bel lt1) trodAll_mk0)), rfl, bel.frame _, fun h => by cases h⟩
end prettyBack

theorem prettyBack_holds : Rows.PrettyBackSaid :=
  OpenClaim.holds_of_wide 4 Tryd.f4 rfl rfl rfl rfl rfl rfl rfl ⟨rfl, rfl, rfl, rfl, rfl⟩ rfl rfl rfl rfl rfl (by kernel_rfl) Tryd.func4 (by kernel_rfl)
    (of_decide_eq_true (by kernel_rfl)) (by unfold Func.isWrapper; first | (rw [if_pos (by decide +kernel)]; kernel_rfl) | (rw [if_neg (by decide +kernel)]; exact ⟨rfl, rfl⟩))
    (fun os started H enc _ => prettyBack.lifted os started H enc)

theorem prettyBackCard_holds : Rows.PrettyBackCardSaid :=
  Claim7.holds_tied_plain_at .later [] [.data, .data, .data] true (true, "2cc4468302e316018ec97142d67c77dc637a12be2100efdb9e5087b4b51305a0") false
    prettyBack_holds (fun _ h => by cases h) (by kernel_rfl) (fun _ h => by cases h) prettyBack_row_tie rfl ⟨rfl, rfl⟩ (by kernel_rfl) rfl
    (fun f fn hf hfn => by
      obtain rfl : f = 4 := Option.some.inj ((show Tryd.prog.funcNamed Rows.prettyBackRow.func = some 4 by kernel_rfl).symm.trans hf) |>.symm
      obtain rfl : fn = Tryd.f4 := (Option.some.inj (Tryd.func4.symm.trans hfn)).symm
      exact ⟨by kernel_rfl, fun j t ht => by
        rw [Tryd.params4] at ht
        have hm : t ∈ [24, 24] := by simpa using Array.mem_of_getElem? ht
        have hall : ([24, 24].all fun u => !Tryd.prog.wantsStandIn u) = true := by kernel_rfl
        exact (show Tryd.prog.wantsStandIn t = false by simpa using List.all_eq_true.1 hall t hm)⟩)
    (by kernel_rfl)
end Go.Proofs.YtpeldiibjhffiaaDoor
