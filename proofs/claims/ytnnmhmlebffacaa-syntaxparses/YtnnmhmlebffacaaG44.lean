/-
  Right: items, trees. Items and sources: what is read of right tokens is right, and where it stands.
-/
import Derived.Test.YtnnmhmlebffacaaG38
import Derived.Test.YtnnmhmlebffacaaG43
namespace Go.Proofs.Ytnnmhmlebffacaa
open Go.RowKit Go.Deep

def itRight (i : It) : Bool :=
  if i.kind = 1 then nameB i.name && (decide (lenF i.args = 1) && rgtF 32 i.args)
  else if i.kind = 7 then isWayB i.name && decide (lenF i.args = 0)
  else if i.kind = 2 ∨ i.kind = 3 ∨ i.kind = 4 ∨ i.kind = 10 then decide (i.name = []) && (decide (lenF i.args = 1) && rgtF 32 i.args)
  else if i.kind = 5 ∨ i.kind = 6 ∨ i.kind = 8 ∨ i.kind = 9 then decide (i.name = []) && (decide (lenF i.args = 2) && rgtF 32 i.args)
  else false
def treeRight (L : List It) : Bool := decide (L.length ≤ 100) && L.all itRight
set_option maxRecDepth 20000 in
set_option maxHeartbeats 4000000 in
theorem it_1 {o : Bool} {S : Nat → Prop} (i : It) (ka : Option Addr) (n c : Nat) (w : World) (hF : FoAt o S w i.args ka n) (hn : n ≤ maxLen) (hk : i.kind = 1) :
    Calls Try.prog 32 #[.agg #[.int .i64 i.kind, .string (bs i.name), .slice ka n c, .int .i64 i.pl]] w fun e w' => e = .returned (.bool (nameB i.name && (decide (lenF i.args = 1) && rgtF 32 i.args))) ∧ Below w.heap.size w w' := by
  have HN : Hid (∀ w, Calls Try.prog 50 #[.string (bs i.name)] w fun e w' => e = .returned (.bool (nameB i.name)) ∧ Below w.heap.size w w') := fun w => by
    have := isName_calls (bs i.name) w
    rw [bs_list] at this; exact this
  have hlen := foAt_len hF
  have HA : Hid (∀ W, Below w.heap.size w W → Calls Try.prog 51 #[.slice ka n c, .int .i64 32] W fun e w' => e = .returned (.bool (rgtF 32 i.args)) ∧ Below W.heap.size W w') := fun W hW => rightAll_calls _ i.args ka n c 32 W o S (hF.below hW) hn (Nat.le_refl _) (Nat.lt_succ_self _)
  have hbx : Below w.heap.size w (w.alloc (.cells #[.int .i64 i.kind, .string (bs i.name), .slice ka n c, .int .i64 i.pl] 42)) := (Below.refl _ _).alloc (Nat.le_refl _) _
  have hnw := heap_alloc_new w (.cells #[.int .i64 i.kind, .string (bs i.name), .slice ka n c, .int .i64 i.pl] 42)
  have HB : Hid (Below w.heap.size w (w.alloc (.cells #[.int .i64 i.kind, .string (bs i.name), .slice ka n c, .int .i64 i.pl] 42)) ∧ ((w.alloc (.cells #[.int .i64 i.kind, .string (bs i.name), .slice ka n c, .int .i64 i.pl] 42))).heap[w.heap.size]? = some (.cells #[.int .i64 i.kind, .string (bs i.name), .slice ka n c, .int .i64 i.pl] 42 (0, 0))) := ⟨hbx, hnw⟩
  have k1 : (i.kind == 1) = true := by rw [beq_iff_eq]; omega
  clear hk hbx hnw hF hn
  rw [← hlen]
  clear hlen
  have b1 : ((n : Int) == 1) = decide (n = 1) := natB n 1
  generalize nameB i.name = v0 at *
  generalize decide (n = 1) = v1 at *
  generalize rgtF 32 i.args = v2 at *
  cases v0 <;> cases v1 <;> (try cases v2) <;> (
    go_enter Try.func32, Try.ntmps32
    go_wp2_with fail
    refine (HN.out _).mono ?_
    rintro e w2 ⟨rfl, hb2⟩
    have hk3 : w2.heap[w.heap.size]? = some (.cells #[.int .i64 i.kind, .string (bs i.name), .slice ka n c, .int .i64 i.pl] 42 (0, 0)) := by rw [hb2.block _ (lt_block HB.out.2)]; exact HB.out.2
    have c2 := blk (i := 2) hk3 rfl
    have HB2 : Hid (Below w.heap.size w w2) := HB.out.1.trans (hb2.mono HB.out.1.size)
    clear hk3 hb2 HN HB
    first
      | (go_wp2
         go_ret
         exact ⟨rfl, HB2.out⟩)
      | (go_wp2_with fail
         refine (HA.out _ HB2.out).mono ?_
         rintro e w3 ⟨rfl, hb3⟩
         have HB3 : Hid (Below w.heap.size w w3) := HB2.out.trans (hb3.mono HB2.out.size)
         clear hb3 HA HB2
         go_wp2
         go_ret
         exact ⟨rfl, HB3.out⟩))
set_option maxRecDepth 20000 in
set_option maxHeartbeats 4000000 in
theorem it_7 (i : It) (ka : Option Addr) (n c : Nat) (w : World) (hlen : n = lenF i.args) (hk : i.kind = 7) :
    Calls Try.prog 32 #[.agg #[.int .i64 i.kind, .string (bs i.name), .slice ka n c, .int .i64 i.pl]] w fun e w' => e = .returned (.bool (isWayB i.name && decide (lenF i.args = 0))) ∧ Below w.heap.size w w' := by
  have HN : Hid (∀ w, Calls Try.prog 52 #[.string (bs i.name)] w fun e w' => e = .returned (.bool (isWayB i.name)) ∧ w' = w) := fun w => by
    have := isWay_calls (bs i.name) w
    rw [bs_list] at this; exact this
  have HB : Hid (Below w.heap.size w (w.alloc (.cells #[.int .i64 i.kind, .string (bs i.name), .slice ka n c, .int .i64 i.pl] 42))) := (Below.refl _ _).alloc (Nat.le_refl _) _
  have k1 : (i.kind == 1) = false := by rw [beq_eq_false_iff_ne]; omega
  have k7 : (i.kind == 7) = true := by rw [beq_iff_eq]; omega
  clear hk
  rw [← hlen]
  clear hlen
  have b1 : ((n : Int) == 0) = decide (n = 0) := natB n 0
  generalize isWayB i.name = v0 at *
  generalize decide (n = 0) = v1 at *
  cases v0 <;> cases v1 <;> (
    go_enter Try.func32, Try.ntmps32
    go_wp2_with (go_at_call 52; refine (HN.out _).mono ?_; rintro e w2 ⟨rfl, rfl⟩)
    go_ret
    exact ⟨rfl, HB.out⟩)
set_option maxRecDepth 20000 in
set_option maxHeartbeats 4000000 in
theorem it_2 {o : Bool} {S : Nat → Prop} (i : It) (ka : Option Addr) (n c : Nat) (w : World) (hF : FoAt o S w i.args ka n) (hn : n ≤ maxLen) (hk : i.kind = 2) :
    Calls Try.prog 32 #[.agg #[.int .i64 i.kind, .string (bs i.name), .slice ka n c, .int .i64 i.pl]] w fun e w' => e = .returned (.bool (decide (i.name = []) && (decide (lenF i.args = 1) && rgtF 32 i.args))) ∧ Below w.heap.size w w' := by
  have hlen := foAt_len hF
  have HA : Hid (∀ W, Below w.heap.size w W → Calls Try.prog 51 #[.slice ka n c, .int .i64 32] W fun e w' => e = .returned (.bool (rgtF 32 i.args)) ∧ Below W.heap.size W w') := fun W hW => rightAll_calls _ i.args ka n c 32 W o S (hF.below hW) hn (Nat.le_refl _) (Nat.lt_succ_self _)
  have hbx : Below w.heap.size w (w.alloc (.cells #[.int .i64 i.kind, .string (bs i.name), .slice ka n c, .int .i64 i.pl] 42)) := (Below.refl _ _).alloc (Nat.le_refl _) _
  have hnw := heap_alloc_new w (.cells #[.int .i64 i.kind, .string (bs i.name), .slice ka n c, .int .i64 i.pl] 42)
  have HB : Hid (Below w.heap.size w (w.alloc (.cells #[.int .i64 i.kind, .string (bs i.name), .slice ka n c, .int .i64 i.pl] 42)) ∧ ((w.alloc (.cells #[.int .i64 i.kind, .string (bs i.name), .slice ka n c, .int .i64 i.pl] 42))).heap[w.heap.size]? = some (.cells #[.int .i64 i.kind, .string (bs i.name), .slice ka n c, .int .i64 i.pl] 42 (0, 0))) := ⟨hbx, hnw⟩
  have k1 : (i.kind == 1) = false := by rw [beq_eq_false_iff_ne]; omega
  have k7 : (i.kind == 7) = false := by rw [beq_eq_false_iff_ne]; omega
  have k2 : (i.kind == 2) = true := by rw [beq_iff_eq]; omega
  clear hk hbx hnw hF hn
  rw [← hlen]
  clear hlen
  have b0 : ((bs i.name).toList == []) = decide (i.name = []) := emptyT _
  have b1 : ((n : Int) == 1) = decide (n = 1) := natB n 1
  generalize decide (i.name = []) = v0 at *
  generalize decide (n = 1) = v1 at *
  cases v0 with
  | false =>
    go_enter Try.func32, Try.ntmps32
    go_wp2
    go_ret
    exact ⟨rfl, HB.out.1⟩
  | true =>
    cases v1 with
    | false =>
      go_enter Try.func32, Try.ntmps32
      go_wp2
      go_ret
      exact ⟨rfl, HB.out.1⟩
    | true =>
      have HA2 : Hid (Calls Try.prog 51 #[.slice ka n c, .int .i64 32] (w.alloc (.cells #[.int .i64 i.kind, .string (bs i.name), .slice ka n c, .int .i64 i.pl] 42)) fun e w' => e = .returned (.bool (rgtF 32 i.args)) ∧ Below ((w.alloc (.cells #[.int .i64 i.kind, .string (bs i.name), .slice ka n c, .int .i64 i.pl] 42))).heap.size (w.alloc (.cells #[.int .i64 i.kind, .string (bs i.name), .slice ka n c, .int .i64 i.pl] 42)) w') := HA.out _ HB.out.1
      clear HA
      generalize rgtF 32 i.args = v2 at *
      cases v2 <;> (
        go_enter Try.func32, Try.ntmps32
        go_wp2_with fail
        refine HA2.out.mono ?_
        rintro e w2 ⟨rfl, hb2⟩
        have HB2 : Hid (Below w.heap.size w w2) := HB.out.1.trans (hb2.mono HB.out.1.size)
        clear hb2
        go_wp2
        go_ret
        exact ⟨rfl, HB2.out⟩)
set_option maxRecDepth 20000 in
set_option maxHeartbeats 4000000 in
theorem it_3 {o : Bool} {S : Nat → Prop} (i : It) (ka : Option Addr) (n c : Nat) (w : World) (hF : FoAt o S w i.args ka n) (hn : n ≤ maxLen) (hk : i.kind = 3) :
    Calls Try.prog 32 #[.agg #[.int .i64 i.kind, .string (bs i.name), .slice ka n c, .int .i64 i.pl]] w fun e w' => e = .returned (.bool (decide (i.name = []) && (decide (lenF i.args = 1) && rgtF 32 i.args))) ∧ Below w.heap.size w w' := by
  have hlen := foAt_len hF
  have HA : Hid (∀ W, Below w.heap.size w W → Calls Try.prog 51 #[.slice ka n c, .int .i64 32] W fun e w' => e = .returned (.bool (rgtF 32 i.args)) ∧ Below W.heap.size W w') := fun W hW => rightAll_calls _ i.args ka n c 32 W o S (hF.below hW) hn (Nat.le_refl _) (Nat.lt_succ_self _)
  have hbx : Below w.heap.size w (w.alloc (.cells #[.int .i64 i.kind, .string (bs i.name), .slice ka n c, .int .i64 i.pl] 42)) := (Below.refl _ _).alloc (Nat.le_refl _) _
  have hnw := heap_alloc_new w (.cells #[.int .i64 i.kind, .string (bs i.name), .slice ka n c, .int .i64 i.pl] 42)
  have HB : Hid (Below w.heap.size w (w.alloc (.cells #[.int .i64 i.kind, .string (bs i.name), .slice ka n c, .int .i64 i.pl] 42)) ∧ ((w.alloc (.cells #[.int .i64 i.kind, .string (bs i.name), .slice ka n c, .int .i64 i.pl] 42))).heap[w.heap.size]? = some (.cells #[.int .i64 i.kind, .string (bs i.name), .slice ka n c, .int .i64 i.pl] 42 (0, 0))) := ⟨hbx, hnw⟩
  have k1 : (i.kind == 1) = false := by rw [beq_eq_false_iff_ne]; omega
  have k7 : (i.kind == 7) = false := by rw [beq_eq_false_iff_ne]; omega
  have k2 : (i.kind == 2) = false := by rw [beq_eq_false_iff_ne]; omega
  have k3 : (i.kind == 3) = true := by rw [beq_iff_eq]; omega
  clear hk hbx hnw hF hn
  rw [← hlen]
  clear hlen
  have b0 : ((bs i.name).toList == []) = decide (i.name = []) := emptyT _
  have b1 : ((n : Int) == 1) = decide (n = 1) := natB n 1
  generalize decide (i.name = []) = v0 at *
  generalize decide (n = 1) = v1 at *
  cases v0 with
  | false =>
    go_enter Try.func32, Try.ntmps32
    go_wp2
    go_ret
    exact ⟨rfl, HB.out.1⟩
  | true =>
    cases v1 with
    | false =>
      go_enter Try.func32, Try.ntmps32
      go_wp2
      go_ret
      exact ⟨rfl, HB.out.1⟩
    | true =>
      have HA2 : Hid (Calls Try.prog 51 #[.slice ka n c, .int .i64 32] (w.alloc (.cells #[.int .i64 i.kind, .string (bs i.name), .slice ka n c, .int .i64 i.pl] 42)) fun e w' => e = .returned (.bool (rgtF 32 i.args)) ∧ Below ((w.alloc (.cells #[.int .i64 i.kind, .string (bs i.name), .slice ka n c, .int .i64 i.pl] 42))).heap.size (w.alloc (.cells #[.int .i64 i.kind, .string (bs i.name), .slice ka n c, .int .i64 i.pl] 42)) w') := HA.out _ HB.out.1
      clear HA
      generalize rgtF 32 i.args = v2 at *
      cases v2 <;> (
        go_enter Try.func32, Try.ntmps32
        go_wp2_with fail
        refine HA2.out.mono ?_
        rintro e w2 ⟨rfl, hb2⟩
        have HB2 : Hid (Below w.heap.size w w2) := HB.out.1.trans (hb2.mono HB.out.1.size)
        clear hb2
        go_wp2
        go_ret
        exact ⟨rfl, HB2.out⟩)
set_option maxRecDepth 20000 in
set_option maxHeartbeats 4000000 in
theorem it_4 {o : Bool} {S : Nat → Prop} (i : It) (ka : Option Addr) (n c : Nat) (w : World) (hF : FoAt o S w i.args ka n) (hn : n ≤ maxLen) (hk : i.kind = 4) :
    Calls Try.prog 32 #[.agg #[.int .i64 i.kind, .string (bs i.name), .slice ka n c, .int .i64 i.pl]] w fun e w' => e = .returned (.bool (decide (i.name = []) && (decide (lenF i.args = 1) && rgtF 32 i.args))) ∧ Below w.heap.size w w' := by
  have hlen := foAt_len hF
  have HA : Hid (∀ W, Below w.heap.size w W → Calls Try.prog 51 #[.slice ka n c, .int .i64 32] W fun e w' => e = .returned (.bool (rgtF 32 i.args)) ∧ Below W.heap.size W w') := fun W hW => rightAll_calls _ i.args ka n c 32 W o S (hF.below hW) hn (Nat.le_refl _) (Nat.lt_succ_self _)
  have hbx : Below w.heap.size w (w.alloc (.cells #[.int .i64 i.kind, .string (bs i.name), .slice ka n c, .int .i64 i.pl] 42)) := (Below.refl _ _).alloc (Nat.le_refl _) _
  have hnw := heap_alloc_new w (.cells #[.int .i64 i.kind, .string (bs i.name), .slice ka n c, .int .i64 i.pl] 42)
  have HB : Hid (Below w.heap.size w (w.alloc (.cells #[.int .i64 i.kind, .string (bs i.name), .slice ka n c, .int .i64 i.pl] 42)) ∧ ((w.alloc (.cells #[.int .i64 i.kind, .string (bs i.name), .slice ka n c, .int .i64 i.pl] 42))).heap[w.heap.size]? = some (.cells #[.int .i64 i.kind, .string (bs i.name), .slice ka n c, .int .i64 i.pl] 42 (0, 0))) := ⟨hbx, hnw⟩
  have k1 : (i.kind == 1) = false := by rw [beq_eq_false_iff_ne]; omega
  have k7 : (i.kind == 7) = false := by rw [beq_eq_false_iff_ne]; omega
  have k2 : (i.kind == 2) = false := by rw [beq_eq_false_iff_ne]; omega
  have k3 : (i.kind == 3) = false := by rw [beq_eq_false_iff_ne]; omega
  have k4 : (i.kind == 4) = true := by rw [beq_iff_eq]; omega
  clear hk hbx hnw hF hn
  rw [← hlen]
  clear hlen
  have b0 : ((bs i.name).toList == []) = decide (i.name = []) := emptyT _
  have b1 : ((n : Int) == 1) = decide (n = 1) := natB n 1
  generalize decide (i.name = []) = v0 at *
  generalize decide (n = 1) = v1 at *
  cases v0 with
  | false =>
    go_enter Try.func32, Try.ntmps32
    go_wp2
    go_ret
    exact ⟨rfl, HB.out.1⟩
  | true =>
    cases v1 with
    | false =>
      go_enter Try.func32, Try.ntmps32
      go_wp2
      go_ret
      exact ⟨rfl, HB.out.1⟩
    | true =>
      have HA2 : Hid (Calls Try.prog 51 #[.slice ka n c, .int .i64 32] (w.alloc (.cells #[.int .i64 i.kind, .string (bs i.name), .slice ka n c, .int .i64 i.pl] 42)) fun e w' => e = .returned (.bool (rgtF 32 i.args)) ∧ Below ((w.alloc (.cells #[.int .i64 i.kind, .string (bs i.name), .slice ka n c, .int .i64 i.pl] 42))).heap.size (w.alloc (.cells #[.int .i64 i.kind, .string (bs i.name), .slice ka n c, .int .i64 i.pl] 42)) w') := HA.out _ HB.out.1
      clear HA
      generalize rgtF 32 i.args = v2 at *
      cases v2 <;> (
        go_enter Try.func32, Try.ntmps32
        go_wp2_with fail
        refine HA2.out.mono ?_
        rintro e w2 ⟨rfl, hb2⟩
        have HB2 : Hid (Below w.heap.size w w2) := HB.out.1.trans (hb2.mono HB.out.1.size)
        clear hb2
        go_wp2
        go_ret
        exact ⟨rfl, HB2.out⟩)
set_option maxRecDepth 20000 in
set_option maxHeartbeats 4000000 in
theorem it_10 {o : Bool} {S : Nat → Prop} (i : It) (ka : Option Addr) (n c : Nat) (w : World) (hF : FoAt o S w i.args ka n) (hn : n ≤ maxLen) (hk : i.kind = 10) :
    Calls Try.prog 32 #[.agg #[.int .i64 i.kind, .string (bs i.name), .slice ka n c, .int .i64 i.pl]] w fun e w' => e = .returned (.bool (decide (i.name = []) && (decide (lenF i.args = 1) && rgtF 32 i.args))) ∧ Below w.heap.size w w' := by
  have hlen := foAt_len hF
  have HA : Hid (∀ W, Below w.heap.size w W → Calls Try.prog 51 #[.slice ka n c, .int .i64 32] W fun e w' => e = .returned (.bool (rgtF 32 i.args)) ∧ Below W.heap.size W w') := fun W hW => rightAll_calls _ i.args ka n c 32 W o S (hF.below hW) hn (Nat.le_refl _) (Nat.lt_succ_self _)
  have hbx : Below w.heap.size w (w.alloc (.cells #[.int .i64 i.kind, .string (bs i.name), .slice ka n c, .int .i64 i.pl] 42)) := (Below.refl _ _).alloc (Nat.le_refl _) _
  have hnw := heap_alloc_new w (.cells #[.int .i64 i.kind, .string (bs i.name), .slice ka n c, .int .i64 i.pl] 42)
  have HB : Hid (Below w.heap.size w (w.alloc (.cells #[.int .i64 i.kind, .string (bs i.name), .slice ka n c, .int .i64 i.pl] 42)) ∧ ((w.alloc (.cells #[.int .i64 i.kind, .string (bs i.name), .slice ka n c, .int .i64 i.pl] 42))).heap[w.heap.size]? = some (.cells #[.int .i64 i.kind, .string (bs i.name), .slice ka n c, .int .i64 i.pl] 42 (0, 0))) := ⟨hbx, hnw⟩
  have k1 : (i.kind == 1) = false := by rw [beq_eq_false_iff_ne]; omega
  have k7 : (i.kind == 7) = false := by rw [beq_eq_false_iff_ne]; omega
  have k2 : (i.kind == 2) = false := by rw [beq_eq_false_iff_ne]; omega
  have k3 : (i.kind == 3) = false := by rw [beq_eq_false_iff_ne]; omega
  have k4 : (i.kind == 4) = false := by rw [beq_eq_false_iff_ne]; omega
  have k10 : (i.kind == 10) = true := by rw [beq_iff_eq]; omega
  clear hk hbx hnw hF hn
  rw [← hlen]
  clear hlen
  have b0 : ((bs i.name).toList == []) = decide (i.name = []) := emptyT _
  have b1 : ((n : Int) == 1) = decide (n = 1) := natB n 1
  generalize decide (i.name = []) = v0 at *
  generalize decide (n = 1) = v1 at *
  cases v0 with
  | false =>
    go_enter Try.func32, Try.ntmps32
    go_wp2
    go_ret
    exact ⟨rfl, HB.out.1⟩
  | true =>
    cases v1 with
    | false =>
      go_enter Try.func32, Try.ntmps32
      go_wp2
      go_ret
      exact ⟨rfl, HB.out.1⟩
    | true =>
      have HA2 : Hid (Calls Try.prog 51 #[.slice ka n c, .int .i64 32] (w.alloc (.cells #[.int .i64 i.kind, .string (bs i.name), .slice ka n c, .int .i64 i.pl] 42)) fun e w' => e = .returned (.bool (rgtF 32 i.args)) ∧ Below ((w.alloc (.cells #[.int .i64 i.kind, .string (bs i.name), .slice ka n c, .int .i64 i.pl] 42))).heap.size (w.alloc (.cells #[.int .i64 i.kind, .string (bs i.name), .slice ka n c, .int .i64 i.pl] 42)) w') := HA.out _ HB.out.1
      clear HA
      generalize rgtF 32 i.args = v2 at *
      cases v2 <;> (
        go_enter Try.func32, Try.ntmps32
        go_wp2_with fail
        refine HA2.out.mono ?_
        rintro e w2 ⟨rfl, hb2⟩
        have HB2 : Hid (Below w.heap.size w w2) := HB.out.1.trans (hb2.mono HB.out.1.size)
        clear hb2
        go_wp2
        go_ret
        exact ⟨rfl, HB2.out⟩)
set_option maxRecDepth 20000 in
set_option maxHeartbeats 4000000 in
theorem it_5 {o : Bool} {S : Nat → Prop} (i : It) (ka : Option Addr) (n c : Nat) (w : World) (hF : FoAt o S w i.args ka n) (hn : n ≤ maxLen) (hk : i.kind = 5) :
    Calls Try.prog 32 #[.agg #[.int .i64 i.kind, .string (bs i.name), .slice ka n c, .int .i64 i.pl]] w fun e w' => e = .returned (.bool (decide (i.name = []) && (decide (lenF i.args = 2) && rgtF 32 i.args))) ∧ Below w.heap.size w w' := by
  have hlen := foAt_len hF
  have HA : Hid (∀ W, Below w.heap.size w W → Calls Try.prog 51 #[.slice ka n c, .int .i64 32] W fun e w' => e = .returned (.bool (rgtF 32 i.args)) ∧ Below W.heap.size W w') := fun W hW => rightAll_calls _ i.args ka n c 32 W o S (hF.below hW) hn (Nat.le_refl _) (Nat.lt_succ_self _)
  have hbx : Below w.heap.size w (w.alloc (.cells #[.int .i64 i.kind, .string (bs i.name), .slice ka n c, .int .i64 i.pl] 42)) := (Below.refl _ _).alloc (Nat.le_refl _) _
  have hnw := heap_alloc_new w (.cells #[.int .i64 i.kind, .string (bs i.name), .slice ka n c, .int .i64 i.pl] 42)
  have HB : Hid (Below w.heap.size w (w.alloc (.cells #[.int .i64 i.kind, .string (bs i.name), .slice ka n c, .int .i64 i.pl] 42)) ∧ ((w.alloc (.cells #[.int .i64 i.kind, .string (bs i.name), .slice ka n c, .int .i64 i.pl] 42))).heap[w.heap.size]? = some (.cells #[.int .i64 i.kind, .string (bs i.name), .slice ka n c, .int .i64 i.pl] 42 (0, 0))) := ⟨hbx, hnw⟩
  have k1 : (i.kind == 1) = false := by rw [beq_eq_false_iff_ne]; omega
  have k7 : (i.kind == 7) = false := by rw [beq_eq_false_iff_ne]; omega
  have k2 : (i.kind == 2) = false := by rw [beq_eq_false_iff_ne]; omega
  have k3 : (i.kind == 3) = false := by rw [beq_eq_false_iff_ne]; omega
  have k4 : (i.kind == 4) = false := by rw [beq_eq_false_iff_ne]; omega
  have k10 : (i.kind == 10) = false := by rw [beq_eq_false_iff_ne]; omega
  have k5 : (i.kind == 5) = true := by rw [beq_iff_eq]; omega
  clear hk hbx hnw hF hn
  rw [← hlen]
  clear hlen
  have b0 : ((bs i.name).toList == []) = decide (i.name = []) := emptyT _
  have b1 : ((n : Int) == 2) = decide (n = 2) := natB n 2
  generalize decide (i.name = []) = v0 at *
  generalize decide (n = 2) = v1 at *
  cases v0 with
  | false =>
    go_enter Try.func32, Try.ntmps32
    go_wp2
    go_ret
    exact ⟨rfl, HB.out.1⟩
  | true =>
    cases v1 with
    | false =>
      go_enter Try.func32, Try.ntmps32
      go_wp2
      go_ret
      exact ⟨rfl, HB.out.1⟩
    | true =>
      have HA2 : Hid (Calls Try.prog 51 #[.slice ka n c, .int .i64 32] (w.alloc (.cells #[.int .i64 i.kind, .string (bs i.name), .slice ka n c, .int .i64 i.pl] 42)) fun e w' => e = .returned (.bool (rgtF 32 i.args)) ∧ Below ((w.alloc (.cells #[.int .i64 i.kind, .string (bs i.name), .slice ka n c, .int .i64 i.pl] 42))).heap.size (w.alloc (.cells #[.int .i64 i.kind, .string (bs i.name), .slice ka n c, .int .i64 i.pl] 42)) w') := HA.out _ HB.out.1
      clear HA
      generalize rgtF 32 i.args = v2 at *
      cases v2 <;> (
        go_enter Try.func32, Try.ntmps32
        go_wp2_with fail
        refine HA2.out.mono ?_
        rintro e w2 ⟨rfl, hb2⟩
        have HB2 : Hid (Below w.heap.size w w2) := HB.out.1.trans (hb2.mono HB.out.1.size)
        clear hb2
        go_wp2
        go_ret
        exact ⟨rfl, HB2.out⟩)
set_option maxRecDepth 20000 in
set_option maxHeartbeats 4000000 in
theorem it_6 {o : Bool} {S : Nat → Prop} (i : It) (ka : Option Addr) (n c : Nat) (w : World) (hF : FoAt o S w i.args ka n) (hn : n ≤ maxLen) (hk : i.kind = 6) :
    Calls Try.prog 32 #[.agg #[.int .i64 i.kind, .string (bs i.name), .slice ka n c, .int .i64 i.pl]] w fun e w' => e = .returned (.bool (decide (i.name = []) && (decide (lenF i.args = 2) && rgtF 32 i.args))) ∧ Below w.heap.size w w' := by
  have hlen := foAt_len hF
  have HA : Hid (∀ W, Below w.heap.size w W → Calls Try.prog 51 #[.slice ka n c, .int .i64 32] W fun e w' => e = .returned (.bool (rgtF 32 i.args)) ∧ Below W.heap.size W w') := fun W hW => rightAll_calls _ i.args ka n c 32 W o S (hF.below hW) hn (Nat.le_refl _) (Nat.lt_succ_self _)
  have hbx : Below w.heap.size w (w.alloc (.cells #[.int .i64 i.kind, .string (bs i.name), .slice ka n c, .int .i64 i.pl] 42)) := (Below.refl _ _).alloc (Nat.le_refl _) _
  have hnw := heap_alloc_new w (.cells #[.int .i64 i.kind, .string (bs i.name), .slice ka n c, .int .i64 i.pl] 42)
  have HB : Hid (Below w.heap.size w (w.alloc (.cells #[.int .i64 i.kind, .string (bs i.name), .slice ka n c, .int .i64 i.pl] 42)) ∧ ((w.alloc (.cells #[.int .i64 i.kind, .string (bs i.name), .slice ka n c, .int .i64 i.pl] 42))).heap[w.heap.size]? = some (.cells #[.int .i64 i.kind, .string (bs i.name), .slice ka n c, .int .i64 i.pl] 42 (0, 0))) := ⟨hbx, hnw⟩
  have k1 : (i.kind == 1) = false := by rw [beq_eq_false_iff_ne]; omega
  have k7 : (i.kind == 7) = false := by rw [beq_eq_false_iff_ne]; omega
  have k2 : (i.kind == 2) = false := by rw [beq_eq_false_iff_ne]; omega
  have k3 : (i.kind == 3) = false := by rw [beq_eq_false_iff_ne]; omega
  have k4 : (i.kind == 4) = false := by rw [beq_eq_false_iff_ne]; omega
  have k10 : (i.kind == 10) = false := by rw [beq_eq_false_iff_ne]; omega
  have k5 : (i.kind == 5) = false := by rw [beq_eq_false_iff_ne]; omega
  have k6 : (i.kind == 6) = true := by rw [beq_iff_eq]; omega
  clear hk hbx hnw hF hn
  rw [← hlen]
  clear hlen
  have b0 : ((bs i.name).toList == []) = decide (i.name = []) := emptyT _
  have b1 : ((n : Int) == 2) = decide (n = 2) := natB n 2
  generalize decide (i.name = []) = v0 at *
  generalize decide (n = 2) = v1 at *
  cases v0 with
  | false =>
    go_enter Try.func32, Try.ntmps32
    go_wp2
    go_ret
    exact ⟨rfl, HB.out.1⟩
  | true =>
    cases v1 with
    | false =>
      go_enter Try.func32, Try.ntmps32
      go_wp2
      go_ret
      exact ⟨rfl, HB.out.1⟩
    | true =>
      have HA2 : Hid (Calls Try.prog 51 #[.slice ka n c, .int .i64 32] (w.alloc (.cells #[.int .i64 i.kind, .string (bs i.name), .slice ka n c, .int .i64 i.pl] 42)) fun e w' => e = .returned (.bool (rgtF 32 i.args)) ∧ Below ((w.alloc (.cells #[.int .i64 i.kind, .string (bs i.name), .slice ka n c, .int .i64 i.pl] 42))).heap.size (w.alloc (.cells #[.int .i64 i.kind, .string (bs i.name), .slice ka n c, .int .i64 i.pl] 42)) w') := HA.out _ HB.out.1
      clear HA
      generalize rgtF 32 i.args = v2 at *
      cases v2 <;> (
        go_enter Try.func32, Try.ntmps32
        go_wp2_with fail
        refine HA2.out.mono ?_
        rintro e w2 ⟨rfl, hb2⟩
        have HB2 : Hid (Below w.heap.size w w2) := HB.out.1.trans (hb2.mono HB.out.1.size)
        clear hb2
        go_wp2
        go_ret
        exact ⟨rfl, HB2.out⟩)
set_option maxRecDepth 20000 in
set_option maxHeartbeats 4000000 in
theorem it_8 {o : Bool} {S : Nat → Prop} (i : It) (ka : Option Addr) (n c : Nat) (w : World) (hF : FoAt o S w i.args ka n) (hn : n ≤ maxLen) (hk : i.kind = 8) :
    Calls Try.prog 32 #[.agg #[.int .i64 i.kind, .string (bs i.name), .slice ka n c, .int .i64 i.pl]] w fun e w' => e = .returned (.bool (decide (i.name = []) && (decide (lenF i.args = 2) && rgtF 32 i.args))) ∧ Below w.heap.size w w' := by
  have hlen := foAt_len hF
  have HA : Hid (∀ W, Below w.heap.size w W → Calls Try.prog 51 #[.slice ka n c, .int .i64 32] W fun e w' => e = .returned (.bool (rgtF 32 i.args)) ∧ Below W.heap.size W w') := fun W hW => rightAll_calls _ i.args ka n c 32 W o S (hF.below hW) hn (Nat.le_refl _) (Nat.lt_succ_self _)
  have hbx : Below w.heap.size w (w.alloc (.cells #[.int .i64 i.kind, .string (bs i.name), .slice ka n c, .int .i64 i.pl] 42)) := (Below.refl _ _).alloc (Nat.le_refl _) _
  have hnw := heap_alloc_new w (.cells #[.int .i64 i.kind, .string (bs i.name), .slice ka n c, .int .i64 i.pl] 42)
  have HB : Hid (Below w.heap.size w (w.alloc (.cells #[.int .i64 i.kind, .string (bs i.name), .slice ka n c, .int .i64 i.pl] 42)) ∧ ((w.alloc (.cells #[.int .i64 i.kind, .string (bs i.name), .slice ka n c, .int .i64 i.pl] 42))).heap[w.heap.size]? = some (.cells #[.int .i64 i.kind, .string (bs i.name), .slice ka n c, .int .i64 i.pl] 42 (0, 0))) := ⟨hbx, hnw⟩
  have k1 : (i.kind == 1) = false := by rw [beq_eq_false_iff_ne]; omega
  have k7 : (i.kind == 7) = false := by rw [beq_eq_false_iff_ne]; omega
  have k2 : (i.kind == 2) = false := by rw [beq_eq_false_iff_ne]; omega
  have k3 : (i.kind == 3) = false := by rw [beq_eq_false_iff_ne]; omega
  have k4 : (i.kind == 4) = false := by rw [beq_eq_false_iff_ne]; omega
  have k10 : (i.kind == 10) = false := by rw [beq_eq_false_iff_ne]; omega
  have k5 : (i.kind == 5) = false := by rw [beq_eq_false_iff_ne]; omega
  have k6 : (i.kind == 6) = false := by rw [beq_eq_false_iff_ne]; omega
  have k8 : (i.kind == 8) = true := by rw [beq_iff_eq]; omega
  clear hk hbx hnw hF hn
  rw [← hlen]
  clear hlen
  have b0 : ((bs i.name).toList == []) = decide (i.name = []) := emptyT _
  have b1 : ((n : Int) == 2) = decide (n = 2) := natB n 2
  generalize decide (i.name = []) = v0 at *
  generalize decide (n = 2) = v1 at *
  cases v0 with
  | false =>
    go_enter Try.func32, Try.ntmps32
    go_wp2
    go_ret
    exact ⟨rfl, HB.out.1⟩
  | true =>
    cases v1 with
    | false =>
      go_enter Try.func32, Try.ntmps32
      go_wp2
      go_ret
      exact ⟨rfl, HB.out.1⟩
    | true =>
      have HA2 : Hid (Calls Try.prog 51 #[.slice ka n c, .int .i64 32] (w.alloc (.cells #[.int .i64 i.kind, .string (bs i.name), .slice ka n c, .int .i64 i.pl] 42)) fun e w' => e = .returned (.bool (rgtF 32 i.args)) ∧ Below ((w.alloc (.cells #[.int .i64 i.kind, .string (bs i.name), .slice ka n c, .int .i64 i.pl] 42))).heap.size (w.alloc (.cells #[.int .i64 i.kind, .string (bs i.name), .slice ka n c, .int .i64 i.pl] 42)) w') := HA.out _ HB.out.1
      clear HA
      generalize rgtF 32 i.args = v2 at *
      cases v2 <;> (
        go_enter Try.func32, Try.ntmps32
        go_wp2_with fail
        refine HA2.out.mono ?_
        rintro e w2 ⟨rfl, hb2⟩
        have HB2 : Hid (Below w.heap.size w w2) := HB.out.1.trans (hb2.mono HB.out.1.size)
        clear hb2
        go_wp2
        go_ret
        exact ⟨rfl, HB2.out⟩)
set_option maxRecDepth 20000 in
set_option maxHeartbeats 4000000 in
theorem it_9 {o : Bool} {S : Nat → Prop} (i : It) (ka : Option Addr) (n c : Nat) (w : World) (hF : FoAt o S w i.args ka n) (hn : n ≤ maxLen) (hk : i.kind = 9) :
    Calls Try.prog 32 #[.agg #[.int .i64 i.kind, .string (bs i.name), .slice ka n c, .int .i64 i.pl]] w fun e w' => e = .returned (.bool (decide (i.name = []) && (decide (lenF i.args = 2) && rgtF 32 i.args))) ∧ Below w.heap.size w w' := by
  have hlen := foAt_len hF
  have HA : Hid (∀ W, Below w.heap.size w W → Calls Try.prog 51 #[.slice ka n c, .int .i64 32] W fun e w' => e = .returned (.bool (rgtF 32 i.args)) ∧ Below W.heap.size W w') := fun W hW => rightAll_calls _ i.args ka n c 32 W o S (hF.below hW) hn (Nat.le_refl _) (Nat.lt_succ_self _)
  have hbx : Below w.heap.size w (w.alloc (.cells #[.int .i64 i.kind, .string (bs i.name), .slice ka n c, .int .i64 i.pl] 42)) := (Below.refl _ _).alloc (Nat.le_refl _) _
  have hnw := heap_alloc_new w (.cells #[.int .i64 i.kind, .string (bs i.name), .slice ka n c, .int .i64 i.pl] 42)
  have HB : Hid (Below w.heap.size w (w.alloc (.cells #[.int .i64 i.kind, .string (bs i.name), .slice ka n c, .int .i64 i.pl] 42)) ∧ ((w.alloc (.cells #[.int .i64 i.kind, .string (bs i.name), .slice ka n c, .int .i64 i.pl] 42))).heap[w.heap.size]? = some (.cells #[.int .i64 i.kind, .string (bs i.name), .slice ka n c, .int .i64 i.pl] 42 (0, 0))) := ⟨hbx, hnw⟩
  have k1 : (i.kind == 1) = false := by rw [beq_eq_false_iff_ne]; omega
  have k7 : (i.kind == 7) = false := by rw [beq_eq_false_iff_ne]; omega
  have k2 : (i.kind == 2) = false := by rw [beq_eq_false_iff_ne]; omega
  have k3 : (i.kind == 3) = false := by rw [beq_eq_false_iff_ne]; omega
  have k4 : (i.kind == 4) = false := by rw [beq_eq_false_iff_ne]; omega
  have k10 : (i.kind == 10) = false := by rw [beq_eq_false_iff_ne]; omega
  have k5 : (i.kind == 5) = false := by rw [beq_eq_false_iff_ne]; omega
  have k6 : (i.kind == 6) = false := by rw [beq_eq_false_iff_ne]; omega
  have k8 : (i.kind == 8) = false := by rw [beq_eq_false_iff_ne]; omega
  have k9 : (i.kind == 9) = true := by rw [beq_iff_eq]; omega
  clear hk hbx hnw hF hn
  rw [← hlen]
  clear hlen
  have b0 : ((bs i.name).toList == []) = decide (i.name = []) := emptyT _
  have b1 : ((n : Int) == 2) = decide (n = 2) := natB n 2
  generalize decide (i.name = []) = v0 at *
  generalize decide (n = 2) = v1 at *
  cases v0 with
  | false =>
    go_enter Try.func32, Try.ntmps32
    go_wp2
    go_ret
    exact ⟨rfl, HB.out.1⟩
  | true =>
    cases v1 with
    | false =>
      go_enter Try.func32, Try.ntmps32
      go_wp2
      go_ret
      exact ⟨rfl, HB.out.1⟩
    | true =>
      have HA2 : Hid (Calls Try.prog 51 #[.slice ka n c, .int .i64 32] (w.alloc (.cells #[.int .i64 i.kind, .string (bs i.name), .slice ka n c, .int .i64 i.pl] 42)) fun e w' => e = .returned (.bool (rgtF 32 i.args)) ∧ Below ((w.alloc (.cells #[.int .i64 i.kind, .string (bs i.name), .slice ka n c, .int .i64 i.pl] 42))).heap.size (w.alloc (.cells #[.int .i64 i.kind, .string (bs i.name), .slice ka n c, .int .i64 i.pl] 42)) w') := HA.out _ HB.out.1
      clear HA
      generalize rgtF 32 i.args = v2 at *
      cases v2 <;> (
        go_enter Try.func32, Try.ntmps32
        go_wp2_with fail
        refine HA2.out.mono ?_
        rintro e w2 ⟨rfl, hb2⟩
        have HB2 : Hid (Below w.heap.size w w2) := HB.out.1.trans (hb2.mono HB.out.1.size)
        clear hb2
        go_wp2
        go_ret
        exact ⟨rfl, HB2.out⟩)
set_option maxRecDepth 20000 in
set_option maxHeartbeats 4000000 in
theorem it_none (i : It) (ka : Option Addr) (n c : Nat) (w : World) (hk : ¬ (1 ≤ i.kind ∧ i.kind ≤ 10)) :
    Calls Try.prog 32 #[.agg #[.int .i64 i.kind, .string (bs i.name), .slice ka n c, .int .i64 i.pl]] w fun e w' => e = .returned (.bool false) ∧ Below w.heap.size w w' := by
  have k1 : (i.kind == 1) = false := by rw [beq_eq_false_iff_ne]; omega
  have k7 : (i.kind == 7) = false := by rw [beq_eq_false_iff_ne]; omega
  have k2 : (i.kind == 2) = false := by rw [beq_eq_false_iff_ne]; omega
  have k3 : (i.kind == 3) = false := by rw [beq_eq_false_iff_ne]; omega
  have k4 : (i.kind == 4) = false := by rw [beq_eq_false_iff_ne]; omega
  have k10 : (i.kind == 10) = false := by rw [beq_eq_false_iff_ne]; omega
  have k5 : (i.kind == 5) = false := by rw [beq_eq_false_iff_ne]; omega
  have k6 : (i.kind == 6) = false := by rw [beq_eq_false_iff_ne]; omega
  have k8 : (i.kind == 8) = false := by rw [beq_eq_false_iff_ne]; omega
  have k9 : (i.kind == 9) = false := by rw [beq_eq_false_iff_ne]; omega
  have HB : Hid (Below w.heap.size w (w.alloc (.cells #[.int .i64 i.kind, .string (bs i.name), .slice ka n c, .int .i64 i.pl] 42))) := (Below.refl _ _).alloc (Nat.le_refl _) _
  clear hk
  go_enter Try.func32, Try.ntmps32
  go_wp2
  go_ret
  exact ⟨rfl, HB.out⟩
theorem rightItem_calls {o : Bool} {S : Nat → Prop} (i : It) (ka : Option Addr) (n c : Nat) (w : World) (hF : FoAt o S w i.args ka n) (hn : n ≤ maxLen) :
    Calls Try.prog 32 #[.agg #[.int .i64 i.kind, .string (bs i.name), .slice ka n c, .int .i64 i.pl]] w fun e w' => e = .returned (.bool (itRight i)) ∧ Below w.heap.size w w' := by
  unfold itRight
  by_cases h1 : i.kind = 1
  · rw [if_pos h1]; exact it_1 i ka n c w hF hn h1
  · rw [if_neg h1]
    by_cases h7 : i.kind = 7
    · rw [if_pos h7]; exact it_7 i ka n c w (foAt_len hF) h7
    · rw [if_neg h7]
      by_cases h2 : i.kind = 2 ∨ i.kind = 3 ∨ i.kind = 4 ∨ i.kind = 10
      · rw [if_pos h2]
        rcases h2 with h2 | h2 | h2 | h2
        · exact it_2 i ka n c w hF hn h2
        · exact it_3 i ka n c w hF hn h2
        · exact it_4 i ka n c w hF hn h2
        · exact it_10 i ka n c w hF hn h2
      · rw [if_neg h2]
        by_cases h5 : i.kind = 5 ∨ i.kind = 6 ∨ i.kind = 8 ∨ i.kind = 9
        · rw [if_pos h5]
          rcases h5 with h5 | h5 | h5 | h5
          · exact it_5 i ka n c w hF hn h5
          · exact it_6 i ka n c w hF hn h5
          · exact it_8 i ka n c w hF hn h5
          · exact it_9 i ka n c w hF hn h5
        · rw [if_neg h5]
          exact it_none i ka n c w (by omega)
set_option maxRecDepth 20000 in
set_option maxHeartbeats 4000000 in
theorem right_calls {o : Bool} {S : Nat → Prop} (L : List It) (ao : Option Addr) (n c : Nat) (w : World) (hF : ItsAt o S w L ao n) (hn : n ≤ maxLen) :
    Calls Try.prog 15 #[.agg #[.slice ao n c]] w fun e' w' => e' = .returned (.bool (treeRight L)) ∧ Below w.heap.size w w' := by
  have hn2 := hn
  unfold maxLen at hn2
  have hlen := itsAt_len hF
  have hbx : Below w.heap.size w (w.alloc (.cells #[.slice ao n c] 24)) := (Below.refl _ _).alloc (Nat.le_refl _) _
  have HB : Hid (Below w.heap.size w (w.alloc (.cells #[.slice ao n c] 24))) := hbx
  by_cases h100 : 100 < n
  · have q : decide ((100 : Int) < (n : Int)) = true := by simp; omega
    have HX : Hid (treeRight L = false) := by show treeRight L = false; unfold treeRight; rw [← hlen]; simp; omega
    clear hF hbx hlen
    go_enter Try.func15, Try.ntmps15
    go_wp2
    go_ret
    exact ⟨ret_bool HX.out.symm, HB.out⟩
  · have q : decide ((100 : Int) < (n : Int)) = false := by simp; omega
    have HX : Hid (treeRight L = L.all itRight) := by
      show treeRight L = _
      unfold treeRight
      rw [← hlen, show decide (n ≤ 100) = true by simp; omega, Bool.true_and]
    obtain ⟨g, off, hka, hF'⟩ := itsAt_addr hF
    rw [HX.out]
    generalize hD : L.all itRight = D at *
    have H0 : Hid (ItsAt o S (w.alloc (.cells #[.slice ao n c] 24)) L (some ⟨g, off + 0 * 4, none⟩) (n - 0) ∧ L.all itRight = D ∧ Below w.heap.size w (w.alloc (.cells #[.slice ao n c] 24))) := ⟨hF'.below hbx, hD, hbx⟩
    clear hF hF' hD hbx HX HB hlen
    go_enter Try.func15, Try.ntmps15
    go_wp2_with fail
    go_loopg [12] n (fun k iv wr => ∃ (L' : List It) (i : Nat), iv = .int .i64 (i : Int) ∧ i + k = n ∧ Hid (ItsAt o S wr L' (some ⟨g, off + i * 4, none⟩) (n - i) ∧ L'.all itRight = D ∧ Below w.heap.size w wr))
    case atStart => exact ⟨L, 0, rfl, by omega, H0.out⟩
    case round =>
      clear H0
      obtain ⟨L', i, rfl, hik, HT⟩ := hrel
      by_cases hi : i < n
      · obtain ⟨h1, r1, ka1, kc1, kk1, rfl, -, hok1, hkc1, ⟨c0, c1, c2, c3⟩, hk1, hr1⟩ := itsAt_head HT.out.1 hi
        have hka2 := hka (by omega)
        subst hka2
        have hbx : ∀ o', Below wr.heap.size wr (wr.alloc o') := fun o' => (Below.refl _ _).alloc (Nat.le_refl _) o'
        have HR : Hid (ItsAt o S wr r1 (some ⟨g, off + (i + 1) * 4, none⟩) (n - (i + 1)) ∧ (itRight h1 && r1.all itRight) = D ∧ Below w.heap.size w wr) := ⟨hr1, by have := HT.out.2.1; rw [List.all_cons] at this; exact this, HT.out.2.2⟩
        have HHd : Hid (∀ o', Calls Try.prog 32 #[.agg #[.int .i64 h1.kind, .string (bs h1.name), .slice ka1 kc1 kk1, .int .i64 h1.pl]] (wr.alloc o') fun e w' => e = .returned (.bool (itRight h1)) ∧ Below (wr.alloc o').heap.size (wr.alloc o') w') := fun o' => rightItem_calls h1 ka1 kc1 kk1 _ (hk1.below (hbx o')) hkc1
        clear HT hk1 hr1 hok1 hkc1 hbx
        cases hh : itRight h1 with
        | false =>
          rw [hh] at HHd HR
          go_wp2_with fail
          refine (HHd.out _).mono ?_
          rintro e' w3 ⟨rfl, hb3⟩
          have HX : Hid (D = false ∧ Below w.heap.size w w3) := ⟨by rw [← HR.out.2.1]; simp, HR.out.2.2.trans ((below_box' hb3).mono HR.out.2.2.size)⟩
          clear hb3 HR HHd
          go_wp2
          go_ret
          exact ⟨ret_bool HX.out.1.symm, HX.out.2⟩
        | true =>
          rw [hh] at HHd HR
          go_wp2_with fail
          refine (HHd.out _).mono ?_
          rintro e' w3 ⟨rfl, hb3⟩
          have HX : Hid (ItsAt o S w3 r1 (some ⟨g, off + (i + 1) * 4, none⟩) (n - (i + 1)) ∧ r1.all itRight = D ∧ Below w.heap.size w w3) := by
            obtain ⟨a1, a2, a3⟩ := HR.out
            have hb4 := below_box' hb3
            exact ⟨a1.below hb4, by simpa using a2, a3.trans (hb4.mono a3.size)⟩
          clear hb3 HR HHd
          go_wp2_with fail
          go_roundg (gk - 1)
          case measure => omega
          case rel => exact ⟨r1, i + 1, by go_num, by omega, HX.out⟩
      · have HX : Hid (D = true ∧ Below w.heap.size w wr) := by
          obtain ⟨a1, a4, a5⟩ := HT.out
          rw [show n - i = 0 by omega] at a1
          rw [itsAt_end a1] at a4
          exact ⟨a4.symm, a5⟩
        clear HT
        go_wp2
        go_ret
        exact ⟨ret_bool HX.out.1.symm, HX.out.2⟩

end Go.Proofs.Ytnnmhmlebffacaa
namespace Go.Proofs.Ytnnmhmlebffacaa
open Go.RowKit Go.Deep

/-- An item is right where it is not too deep; it is no deeper than that. -/
structure IR (i : It) (n : Nat) : Prop where
  right : depF i.args ≤ 32 → itRight i = true
  deep : depF i.args ≤ n
section
variable {ex : List Tk → Rs Ex}
theorem rt_one (hf : RtF ex) {l : List Tk} (hl : ∀ u ∈ l, RTk u) {F : Fo} (hv : (oneG ex l).val = some F) (hm : (oneG ex l).many = []) : hdsR F = true ∧ lenF F = 1 ∧ depF F ≤ l.length := by
  obtain ⟨a, v1, m1, v2, m2, hr⟩ := many_bind hv hm
  have he : ofL [a] = F := Option.some.inj v2
  subst he
  obtain ⟨q1, q2⟩ := hf l hl a v1 m1
  exact ⟨hds_of [a] (fun e h => by rw [List.mem_singleton.1 h]; exact q1), rfl, dep_of [a] _ (fun e h => by rw [List.mem_singleton.1 h]; omega)⟩
theorem rt_both (hf : RtF ex) (sf : ∀ l, (ex l).rest <:+ l) {s : List UInt8} {l : List Tk} (hl : ∀ u ∈ l, RTk u) {F : Fo} (hv : (bothG ex s l).val = some F) (hm : (bothG ex s l).many = []) : hdsR F = true ∧ lenF F = 2 ∧ depF F ≤ l.length := by
  obtain ⟨a, v1, m1, v2, m2, _⟩ := many_bind hv hm
  obtain ⟨u, v3, m3, v4, m4, _⟩ := many_bind v2 m2
  obtain ⟨b, v5, m5, v6, m6, _⟩ := many_bind v4 m4
  have he : ofL [a, b] = F := Option.some.inj v6
  subst he
  have s1 := sf l
  have s2 := sign_suf s (ex l).rest
  obtain ⟨q1, q2⟩ := hf l hl a v1 m1
  obtain ⟨q3, q4⟩ := hf _ (rt_suf (s2.trans s1) hl) b v5 m5
  have l1 := s1.length_le
  have l2 := s2.length_le
  refine ⟨hds_of [a, b] (fun e h => ?_), rfl, dep_of [a, b] _ (fun e h => ?_)⟩
  · simp at h
    rcases h with rfl | rfl
    · exact q1
    · exact q3
  · simp at h
    rcases h with rfl | rfl
    · omega
    · omega
theorem rt_body (hf : RtF ex) (sf : ∀ l, (ex l).rest <:+ l) {k : Int} (hk : 1 ≤ k ∧ k ≤ 10) {l : List Tk} (hl : ∀ u ∈ l, RTk u) {b : List UInt8 × Fo} (hv : (bodyG ex k l).val = some b) (hm : (bodyG ex k l).many = []) (p : Int) : IR ⟨k, b.1, b.2, p⟩ l.length := by
  unfold bodyG at hv hm
  by_cases h1 : k = 1
  · rw [if_pos h1] at hv hm
    obtain ⟨s, v1, m1, v2, m2, _⟩ := many_bind hv hm
    obtain ⟨u, v3, m3, v4, m4, _⟩ := many_bind v2 m2
    obtain ⟨F, v5, m5, v6, m6, _⟩ := many_bind v4 m4
    have he : (s, F) = b := Option.some.inj v6
    subst he
    have sn : (nameG l).rest <:+ l := by
      cases l with
      | nil => exact List.suffix_refl _
      | cons t r =>
        show (if t.kind = 3 then pure' t.text r else wrong' (t :: r)).rest <:+ _
        split
        · exact List.suffix_cons _ _
        · exact List.suffix_refl _
    have s2 := sign_suf [61] (nameG l).rest
    have hle := (s2.trans sn).length_le
    obtain ⟨q1, q2, q3⟩ := rt_one hf (rt_suf (s2.trans sn) hl) v5 m5
    have hn : nameB s = true := by
      cases l with
      | nil => cases v1
      | cons t r =>
        have v1' : (if t.kind = 3 then pure' t.text r else wrong' (t :: r)).val = some s := v1
        split at v1'
        · rename_i h3
          have : t.text = s := Option.some.inj v1'
          rw [← this]; exact (hl t (by simp)).name h3
        · cases v1'
    refine ⟨fun hd => ?_, by show depF F ≤ _; omega⟩
    have hr := rgt_of F 32 q1 hd
    simp [itRight, h1, hn, q2, hr]
  · rw [if_neg h1] at hv hm
    by_cases h7 : k = 7
    · rw [if_pos h7] at hv hm
      obtain ⟨s, v1, m1, v2, m2, _⟩ := many_bind hv hm
      have he : (s, (BT.nil : Fo)) = b := Option.some.inj v2
      subst he
      have hw : isWayB s = true := by
        cases l with
        | nil => cases v1
        | cons t r =>
          have v1' : (if t.kind = 4 ∧ isWayB t.text = true then pure' t.text r else wrong' (t :: r)).val = some s := v1
          split at v1'
          · rename_i h3
            have : t.text = s := Option.some.inj v1'
            rw [← this]; exact h3.2
          · cases v1'
      exact ⟨fun _ => by simp [itRight, h7, hw, lenF], Nat.zero_le _⟩
    · rw [if_neg h7] at hv hm
      by_cases h8 : k = 8
      · rw [if_pos h8] at hv hm
        obtain ⟨F, v1, m1, v2, m2, _⟩ := many_bind hv hm
        have he : (([] : List UInt8), F) = b := Option.some.inj v2
        subst he
        obtain ⟨q1, q2, q3⟩ := rt_both hf sf hl v1 m1
        refine ⟨fun hd => ?_, q3⟩
        have hr := rgt_of F 32 q1 hd
        simp [itRight, h8, q2, hr]
      · rw [if_neg h8] at hv hm
        by_cases h5 : k = 5 ∨ k = 6 ∨ k = 9
        · rw [if_pos h5] at hv hm
          obtain ⟨F, v1, m1, v2, m2, _⟩ := many_bind hv hm
          have he : (([] : List UInt8), F) = b := Option.some.inj v2
          subst he
          obtain ⟨q1, q2, q3⟩ := rt_both hf sf hl v1 m1
          refine ⟨fun hd => ?_, q3⟩
          have hr := rgt_of F 32 q1 hd
          rcases h5 with rfl | rfl | rfl <;> simp [itRight, q2, hr]
        · rw [if_neg h5] at hv hm
          obtain ⟨F, v1, m1, v2, m2, _⟩ := many_bind hv hm
          have he : (([] : List UInt8), F) = b := Option.some.inj v2
          subst he
          obtain ⟨q1, q2, q3⟩ := rt_one hf hl v1 m1
          refine ⟨fun hd => ?_, q3⟩
          have hr := rgt_of F 32 q1 hd
          have hk2 : k = 2 ∨ k = 3 ∨ k = 4 ∨ k = 10 := by omega
          rcases hk2 with rfl | rfl | rfl | rfl <;> simp [itRight, q2, hr]
theorem rt_item (hf : RtF ex) (sf : ∀ l, (ex l).rest <:+ l) {t : Tk} {r : List Tk} (hl : ∀ u ∈ t :: r, RTk u) {i : It} (hv : (itemG ex (t :: r)).val = some i) (hm : (itemG ex (t :: r)).many = []) : IR i r.length ∧ i.pl = t.pl := by
  have e : itemG ex (t :: r) = if t.kind = 4 ∧ itemKindB t.text ≠ 0 then (closeG [59] (bodyG ex (itemKindB t.text) r)).map (fun b => (⟨itemKindB t.text, b.1, b.2, t.pl⟩ : It)) else wrong' (t :: r) := rfl
  rw [e] at hv hm
  by_cases hc : t.kind = 4 ∧ itemKindB t.text ≠ 0
  · rw [if_pos hc] at hv hm
    cases hx : (closeG [59] (bodyG ex (itemKindB t.text) r)).val with
    | none => have hv' : (closeG [59] (bodyG ex (itemKindB t.text) r)).val.map _ = some i := hv; rw [hx] at hv'; cases hv'
    | some b =>
      have hv' : (closeG [59] (bodyG ex (itemKindB t.text) r)).val.map _ = some i := hv
      rw [hx] at hv'
      have he := Option.some.inj hv'
      subst he
      obtain ⟨v1, m1, _⟩ := rt_close hx hm
      have hkr := kind_range t.text
      exact ⟨rt_body hf sf (by have := hc.2; omega) (rt_tail hl) v1 m1 _, rfl⟩
  · rw [if_neg hc] at hv; cases hv
/-- The items of a source: right where not too deep, not too many, each behind the one ahead, within the source. -/
theorem rt_source (hf : RtF ex) (sf : ∀ l, (ex l).rest <:+ l) : ∀ (m : Nat) (its : List It) (l : List Tk) (its' : List It), (∀ u ∈ l, RTk u) → (l.Pairwise fun a b => a.pl < b.pl) → l.length ≤ 4001 → its.length ≤ 100 → (∀ i ∈ its, IR i 4001) → (its.Pairwise fun a b => a.pl < b.pl) → (∀ i ∈ its, ∀ t ∈ l, i.pl < (t.pl : Int)) →
    (sourceGo ex m its l).val = some its' → (sourceGo ex m its l).many = [] → its'.length ≤ 100 ∧ (∀ i ∈ its', IR i 4001) ∧ (its'.Pairwise fun a b => a.pl < b.pl) ∧ (∀ i ∈ its', i ∈ its ∨ ∃ t ∈ l, i.pl = (t.pl : Int) ∧ t.kind ≠ 1)
  | 0, its, l, its', _, _, _, h1, h2, h3, _, hv, _ => by have : its = its' := Option.some.inj hv; subst this; exact ⟨h1, h2, h3, fun i hi => .inl hi⟩
  | _ + 1, its, [], its', _, _, _, h1, h2, h3, _, hv, _ => by have : its = its' := Option.some.inj hv; subst this; exact ⟨h1, h2, h3, fun i hi => .inl hi⟩
  | m + 1, its, t :: r, its', hl, hpw, hlen, h1, h2, h3, h4, hv, hm => by
    rw [sourceGo] at hv hm
    by_cases ht : t.kind = 1
    · rw [if_pos ht] at hv
      have : its = its' := Option.some.inj hv
      subst this
      exact ⟨h1, h2, h3, fun i hi => .inl hi⟩
    · rw [if_neg ht, note_pre] at hv hm
      have h9 : its.length ≠ 100 := fun e => by
        have hm' : (if decide (its.length = 100) = true then [plOf (t :: r)] else []) ++ ((itemG ex (t :: r)).bind fun i l2 => sourceGo ex m (its ++ [i]) l2).many = [] := hm
        rw [if_pos (by simp [e])] at hm'
        simp at hm'
      have hn : (if decide (its.length = 100) = true then [plOf (t :: r)] else []) = ([] : List Int) := if_neg (by simp [h9])
      rw [hn, pre_nil] at hv hm
      obtain ⟨i, v1, m1, v2, m2, _⟩ := many_bind hv hm
      obtain ⟨q1, q2⟩ := rt_item hf sf hl v1 m1
      have hsuf := item_suf sf v1
      rw [List.pairwise_cons] at hpw
      have hsub := hsuf.sublist
      have h := rt_source hf sf m (its ++ [i]) (itemG ex (t :: r)).rest its' (rt_suf hsuf (rt_tail hl)) (hpw.2.sublist hsub) (by have := hsuf.length_le; simp at hlen; omega) (by simp; omega)
        (fun j hj => by
          rcases List.mem_append.1 hj with h | h
          · exact h2 j h
          · rw [List.mem_singleton.1 h]; exact ⟨q1.right, by have := q1.deep; simp at hlen; omega⟩)
        (by
          rw [List.pairwise_append]
          refine ⟨h3, by simp, fun a ha b hb => ?_⟩
          rw [List.mem_singleton.1 hb, q2]
          exact h4 a ha t (by simp))
        (fun j hj u hu => by
          rcases List.mem_append.1 hj with h | h
          · exact h4 j h u (by simp [hsub.subset hu])
          · rw [List.mem_singleton.1 h, q2]
            have := hpw.1 u (hsub.subset hu)
            omega)
        v2 m2
      refine ⟨h.1, h.2.1, h.2.2.1, fun j hj => ?_⟩
      rcases h.2.2.2 j hj with h | ⟨u, hu, hp⟩
      · rcases List.mem_append.1 h with h | h
        · exact .inl h
        · rw [List.mem_singleton.1 h]; exact .inr ⟨t, by simp, q2, ht⟩
      · exact .inr ⟨u, by simp [hsub.subset hu], hp⟩
end
end Go.Proofs.Ytnnmhmlebffacaa
