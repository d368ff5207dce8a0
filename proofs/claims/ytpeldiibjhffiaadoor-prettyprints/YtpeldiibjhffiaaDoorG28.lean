/-
  The document's rightItem, by kinds (2, 3, 4, 10). The document's rightItem, by kinds (5, 6, 8, 9). The document's rightItem, by kinds (1, 7).
-/
import Derived.Test.YtpeldiibjhffiaaDoorG27
namespace Go.Proofs.YtpeldiibjhffiaaDoor
open Go.RowKit Go.Deep

set_option maxRecDepth 20000 in
set_option maxHeartbeats 8000000 in
theorem rI_2 {o : Bool} {S : Nat → Prop} (x : It) (ka : Option Addr) (n c : Nat) (w : World) (hF : FoAt o S w x.args ka n) (hn : n ≤ maxLen) (hk : x.kind = 2) :
    Calls Tryd.prog 34 #[.agg #[.int .i64 x.kind, .string (bs x.name), .slice ka n c, .int .i64 x.pl]] w fun e' w' => e' = .returned (.bool (decide (x.name = []) && (decide (n = 1) && rgtF 32 x.args))) ∧ Below w.heap.size w w' := by
  have hn2 := hn
  unfold maxLen at hn2
  have k1 : (x.kind == 1) = false := by rw [beq_eq_false_iff_ne]; omega
  have k7 : (x.kind == 7) = false := by rw [beq_eq_false_iff_ne]; omega
  have k5 : (x.kind == 5) = false := by rw [beq_eq_false_iff_ne]; omega
  have k6 : (x.kind == 6) = false := by rw [beq_eq_false_iff_ne]; omega
  have k8 : (x.kind == 8) = false := by rw [beq_eq_false_iff_ne]; omega
  have k9 : (x.kind == 9) = false := by rw [beq_eq_false_iff_ne]; omega
  have kl : decide (x.kind < (1 : Int)) = false := by simp; omega
  have kg : decide ((10 : Int) < x.kind) = false := by simp; omega
  have e1 : ((bs x.name).toList == []) = decide (x.name = []) := emptyT _
  have e2 : ((n : Int) != 1) = !decide (n = 1) := by rw [bne]; exact congrArg _ (natB n 1)
  obtain ⟨g, off, hka, hF'⟩ := foAt_addr hF
  have hbx : Below w.heap.size w (w.alloc (.cells #[.int .i64 x.kind, .string (bs x.name), .slice ka n c, .int .i64 x.pl] 37)) := (Below.refl _ _).alloc (Nat.le_refl _) _
  have HB : Hid (Below w.heap.size w (w.alloc (.cells #[.int .i64 x.kind, .string (bs x.name), .slice ka n c, .int .i64 x.pl] 37)) ∧ (w.alloc (.cells #[.int .i64 x.kind, .string (bs x.name), .slice ka n c, .int .i64 x.pl] 37)).heap[w.heap.size]? = some (.cells #[.int .i64 x.kind, .string (bs x.name), .slice ka n c, .int .i64 x.pl] 37 (0, 0))) := ⟨hbx, heap_alloc_new w _⟩
  clear hk
  cases hv : decide (x.name = []) with
  | false =>
    rw [hv] at e1
    clear hv hF hF' hbx hka e2 hn
    go_enter Tryd.func34, Tryd.ntmps34
    go_wp2
    go_ret
    exact ⟨ret_bool (by simp), HB.out.1⟩
  | true =>
    rw [hv] at e1
    clear hv
    by_cases hm : n = 1
    case neg =>
      have q : ((n : Int) != 1) = true := by rw [e2]; simp [hm]
      rw [decide_eq_false hm]
      clear hF hF' hbx hka e2 hn
      go_enter Tryd.func34, Tryd.ntmps34
      go_wp2
      go_ret
      exact ⟨ret_bool (by simp), HB.out.1⟩
    have q : ((n : Int) != 1) = false := by rw [e2]; simp [hm]
    rw [decide_eq_true hm, Bool.true_and, Bool.true_and]
    generalize hD : rgtF 32 x.args = D
    have HF2 : Hid (FoAt o S (w.alloc (.cells #[.int .i64 x.kind, .string (bs x.name), .slice ka n c, .int .i64 x.pl] 37)) x.args (some ⟨g, off + 0 * 5, none⟩) (n - 0) ∧ rgtF 32 x.args = D ∧ Below w.heap.size w (w.alloc (.cells #[.int .i64 x.kind, .string (bs x.name), .slice ka n c, .int .i64 x.pl] 37)) ∧ (w.alloc (.cells #[.int .i64 x.kind, .string (bs x.name), .slice ka n c, .int .i64 x.pl] 37)).heap[w.heap.size]? = some (.cells #[.int .i64 x.kind, .string (bs x.name), .slice ka n c, .int .i64 x.pl] 37 (0, 0))) := ⟨hF'.below hbx, hD, HB.out⟩
    clear hF hF' hbx hD HB hm e2 hn
    go_enter Tryd.func34, Tryd.ntmps34
    go_wp2_with fail
    go_loopg [5] n (fun k iv wr => ∃ (F' : Fo) (i : Nat), iv = .int .i64 (i : Int) ∧ i + k = n ∧ Hid (FoAt o S wr F' (some ⟨g, off + i * 5, none⟩) (n - i) ∧ rgtF 32 F' = D ∧ Below w.heap.size w wr ∧ wr.heap[w.heap.size]? = some (.cells #[.int .i64 x.kind, .string (bs x.name), .slice ka n c, .int .i64 x.pl] 37 (0, 0))))
    case atStart => exact ⟨x.args, 0, rfl, by omega, HF2.out⟩
    case round =>
      clear HF2
      obtain ⟨F', i, rfl, hik, HT⟩ := hrel
      obtain ⟨v1, v3, v4, v5⟩ := HT.out
      have bk := blk (i := 2) v5 rfl
      by_cases hi : i < n
      · have hdi : decide ((i : Int) < (n : Int)) = true := by simp; omega
        obtain ⟨b1, o1, h1, k1, r1, ka1, kc1, kk1, rfl, -, hok1, hkc1, ⟨c0, c1, c2, c3, c4⟩, hk1, hr1⟩ := foAt_head v1 hi
        have hka2 := hka (by omega)
        subst hka2
        have HR : Hid (FoAt o S wr r1 (some ⟨g, off + (i + 1) * 5, none⟩) (n - (i + 1)) ∧ (rgtE 1 (h1, k1) && rgtF 32 r1) = D ∧ Below w.heap.size w wr ∧ wr.heap[w.heap.size]? = some (.cells #[.int .i64 x.kind, .string (bs x.name), .slice (some ⟨g, off, none⟩) n c, .int .i64 x.pl] 37 (0, 0))) := by
          have h9 := rgtF_cons (d := 0) (by omega) b1 o1 h1 k1 r1
          simp only [Nat.sub_zero, Nat.zero_add] at h9
          rw [h9] at v3
          exact ⟨hr1, v3, v4, v5⟩
        have HKx : Hid (Calls Tryd.prog 51 #[.agg #[.int .i64 h1.kind, .int .i64 h1.num, .string (bs h1.text), .slice ka1 kc1 kk1, .int .i64 h1.pl], .int .i64 1] wr fun e' w' => e' = .returned (.bool (rgtE 1 (h1, k1))) ∧ Below wr.heap.size wr w') :=
          rightE_calls _ (h1, k1) ka1 kc1 kk1 1 wr o S ⟨hok1, hkc1, hk1⟩ (Nat.lt_succ_self _)
        clear HT hk1 hr1 hok1 hkc1 v1 v3 v4 v5
        cases hk : rgtE 1 (h1, k1) with
        | true =>
          rw [hk] at HKx HR
          clear hk
          go_wp2_with fail
          refine HKx.out.mono ?_
          rintro e' w3 ⟨rfl, hb3⟩
          have HN : Hid (FoAt o S w3 r1 (some ⟨g, off + (i + 1) * 5, none⟩) (n - (i + 1)) ∧ rgtF 32 r1 = D ∧ Below w.heap.size w w3 ∧ w3.heap[w.heap.size]? = some (.cells #[.int .i64 x.kind, .string (bs x.name), .slice (some ⟨g, off, none⟩) n c, .int .i64 x.pl] 37 (0, 0))) := by
            obtain ⟨a1, a3, a4, a5⟩ := HR.out
            exact ⟨a1.below hb3, by simpa using a3, a4.trans (hb3.mono a4.size), by rw [hb3.block _ (lt_block a5)]; exact a5⟩
          clear hb3 HR HKx bk c0 c1 c2 c3 c4
          go_wp2_with fail
          go_roundg (gk - 1)
          case measure => omega
          case rel => exact ⟨r1, i + 1, by go_num, by omega, HN.out⟩
        | false =>
          rw [hk] at HKx HR
          clear hk
          go_wp2_with fail
          refine HKx.out.mono ?_
          rintro e' w3 ⟨rfl, hb3⟩
          have HN : Hid (D = false ∧ Below w.heap.size w w3) := by
            obtain ⟨_, a3, a4, _⟩ := HR.out
            exact ⟨by simpa using a3.symm, a4.trans (hb3.mono a4.size)⟩
          clear hb3 HR HKx bk c0 c1 c2 c3 c4
          go_wp2
          go_ret
          exact ⟨ret_bool HN.out.1.symm, HN.out.2⟩
      · have hdi : decide ((i : Int) < (n : Int)) = false := by simp; omega
        have HX : Hid (D = true ∧ Below w.heap.size w wr) := by
          rw [show n - i = 0 by omega] at v1
          rw [foAt_end v1] at v3
          exact ⟨v3.symm.trans rfl, v4⟩
        clear HT v1 v3 v4 v5
        go_wp2
        go_ret
        exact ⟨ret_bool HX.out.1.symm, HX.out.2⟩

set_option maxRecDepth 20000 in
set_option maxHeartbeats 8000000 in
theorem rI_3 {o : Bool} {S : Nat → Prop} (x : It) (ka : Option Addr) (n c : Nat) (w : World) (hF : FoAt o S w x.args ka n) (hn : n ≤ maxLen) (hk : x.kind = 3) :
    Calls Tryd.prog 34 #[.agg #[.int .i64 x.kind, .string (bs x.name), .slice ka n c, .int .i64 x.pl]] w fun e' w' => e' = .returned (.bool (decide (x.name = []) && (decide (n = 1) && rgtF 32 x.args))) ∧ Below w.heap.size w w' := by
  have hn2 := hn
  unfold maxLen at hn2
  have k1 : (x.kind == 1) = false := by rw [beq_eq_false_iff_ne]; omega
  have k7 : (x.kind == 7) = false := by rw [beq_eq_false_iff_ne]; omega
  have k5 : (x.kind == 5) = false := by rw [beq_eq_false_iff_ne]; omega
  have k6 : (x.kind == 6) = false := by rw [beq_eq_false_iff_ne]; omega
  have k8 : (x.kind == 8) = false := by rw [beq_eq_false_iff_ne]; omega
  have k9 : (x.kind == 9) = false := by rw [beq_eq_false_iff_ne]; omega
  have kl : decide (x.kind < (1 : Int)) = false := by simp; omega
  have kg : decide ((10 : Int) < x.kind) = false := by simp; omega
  have e1 : ((bs x.name).toList == []) = decide (x.name = []) := emptyT _
  have e2 : ((n : Int) != 1) = !decide (n = 1) := by rw [bne]; exact congrArg _ (natB n 1)
  obtain ⟨g, off, hka, hF'⟩ := foAt_addr hF
  have hbx : Below w.heap.size w (w.alloc (.cells #[.int .i64 x.kind, .string (bs x.name), .slice ka n c, .int .i64 x.pl] 37)) := (Below.refl _ _).alloc (Nat.le_refl _) _
  have HB : Hid (Below w.heap.size w (w.alloc (.cells #[.int .i64 x.kind, .string (bs x.name), .slice ka n c, .int .i64 x.pl] 37)) ∧ (w.alloc (.cells #[.int .i64 x.kind, .string (bs x.name), .slice ka n c, .int .i64 x.pl] 37)).heap[w.heap.size]? = some (.cells #[.int .i64 x.kind, .string (bs x.name), .slice ka n c, .int .i64 x.pl] 37 (0, 0))) := ⟨hbx, heap_alloc_new w _⟩
  clear hk
  cases hv : decide (x.name = []) with
  | false =>
    rw [hv] at e1
    clear hv hF hF' hbx hka e2 hn
    go_enter Tryd.func34, Tryd.ntmps34
    go_wp2
    go_ret
    exact ⟨ret_bool (by simp), HB.out.1⟩
  | true =>
    rw [hv] at e1
    clear hv
    by_cases hm : n = 1
    case neg =>
      have q : ((n : Int) != 1) = true := by rw [e2]; simp [hm]
      rw [decide_eq_false hm]
      clear hF hF' hbx hka e2 hn
      go_enter Tryd.func34, Tryd.ntmps34
      go_wp2
      go_ret
      exact ⟨ret_bool (by simp), HB.out.1⟩
    have q : ((n : Int) != 1) = false := by rw [e2]; simp [hm]
    rw [decide_eq_true hm, Bool.true_and, Bool.true_and]
    generalize hD : rgtF 32 x.args = D
    have HF2 : Hid (FoAt o S (w.alloc (.cells #[.int .i64 x.kind, .string (bs x.name), .slice ka n c, .int .i64 x.pl] 37)) x.args (some ⟨g, off + 0 * 5, none⟩) (n - 0) ∧ rgtF 32 x.args = D ∧ Below w.heap.size w (w.alloc (.cells #[.int .i64 x.kind, .string (bs x.name), .slice ka n c, .int .i64 x.pl] 37)) ∧ (w.alloc (.cells #[.int .i64 x.kind, .string (bs x.name), .slice ka n c, .int .i64 x.pl] 37)).heap[w.heap.size]? = some (.cells #[.int .i64 x.kind, .string (bs x.name), .slice ka n c, .int .i64 x.pl] 37 (0, 0))) := ⟨hF'.below hbx, hD, HB.out⟩
    clear hF hF' hbx hD HB hm e2 hn
    go_enter Tryd.func34, Tryd.ntmps34
    go_wp2_with fail
    go_loopg [5] n (fun k iv wr => ∃ (F' : Fo) (i : Nat), iv = .int .i64 (i : Int) ∧ i + k = n ∧ Hid (FoAt o S wr F' (some ⟨g, off + i * 5, none⟩) (n - i) ∧ rgtF 32 F' = D ∧ Below w.heap.size w wr ∧ wr.heap[w.heap.size]? = some (.cells #[.int .i64 x.kind, .string (bs x.name), .slice ka n c, .int .i64 x.pl] 37 (0, 0))))
    case atStart => exact ⟨x.args, 0, rfl, by omega, HF2.out⟩
    case round =>
      clear HF2
      obtain ⟨F', i, rfl, hik, HT⟩ := hrel
      obtain ⟨v1, v3, v4, v5⟩ := HT.out
      have bk := blk (i := 2) v5 rfl
      by_cases hi : i < n
      · have hdi : decide ((i : Int) < (n : Int)) = true := by simp; omega
        obtain ⟨b1, o1, h1, k1, r1, ka1, kc1, kk1, rfl, -, hok1, hkc1, ⟨c0, c1, c2, c3, c4⟩, hk1, hr1⟩ := foAt_head v1 hi
        have hka2 := hka (by omega)
        subst hka2
        have HR : Hid (FoAt o S wr r1 (some ⟨g, off + (i + 1) * 5, none⟩) (n - (i + 1)) ∧ (rgtE 1 (h1, k1) && rgtF 32 r1) = D ∧ Below w.heap.size w wr ∧ wr.heap[w.heap.size]? = some (.cells #[.int .i64 x.kind, .string (bs x.name), .slice (some ⟨g, off, none⟩) n c, .int .i64 x.pl] 37 (0, 0))) := by
          have h9 := rgtF_cons (d := 0) (by omega) b1 o1 h1 k1 r1
          simp only [Nat.sub_zero, Nat.zero_add] at h9
          rw [h9] at v3
          exact ⟨hr1, v3, v4, v5⟩
        have HKx : Hid (Calls Tryd.prog 51 #[.agg #[.int .i64 h1.kind, .int .i64 h1.num, .string (bs h1.text), .slice ka1 kc1 kk1, .int .i64 h1.pl], .int .i64 1] wr fun e' w' => e' = .returned (.bool (rgtE 1 (h1, k1))) ∧ Below wr.heap.size wr w') :=
          rightE_calls _ (h1, k1) ka1 kc1 kk1 1 wr o S ⟨hok1, hkc1, hk1⟩ (Nat.lt_succ_self _)
        clear HT hk1 hr1 hok1 hkc1 v1 v3 v4 v5
        cases hk : rgtE 1 (h1, k1) with
        | true =>
          rw [hk] at HKx HR
          clear hk
          go_wp2_with fail
          refine HKx.out.mono ?_
          rintro e' w3 ⟨rfl, hb3⟩
          have HN : Hid (FoAt o S w3 r1 (some ⟨g, off + (i + 1) * 5, none⟩) (n - (i + 1)) ∧ rgtF 32 r1 = D ∧ Below w.heap.size w w3 ∧ w3.heap[w.heap.size]? = some (.cells #[.int .i64 x.kind, .string (bs x.name), .slice (some ⟨g, off, none⟩) n c, .int .i64 x.pl] 37 (0, 0))) := by
            obtain ⟨a1, a3, a4, a5⟩ := HR.out
            exact ⟨a1.below hb3, by simpa using a3, a4.trans (hb3.mono a4.size), by rw [hb3.block _ (lt_block a5)]; exact a5⟩
          clear hb3 HR HKx bk c0 c1 c2 c3 c4
          go_wp2_with fail
          go_roundg (gk - 1)
          case measure => omega
          case rel => exact ⟨r1, i + 1, by go_num, by omega, HN.out⟩
        | false =>
          rw [hk] at HKx HR
          clear hk
          go_wp2_with fail
          refine HKx.out.mono ?_
          rintro e' w3 ⟨rfl, hb3⟩
          have HN : Hid (D = false ∧ Below w.heap.size w w3) := by
            obtain ⟨_, a3, a4, _⟩ := HR.out
            exact ⟨by simpa using a3.symm, a4.trans (hb3.mono a4.size)⟩
          clear hb3 HR HKx bk c0 c1 c2 c3 c4
          go_wp2
          go_ret
          exact ⟨ret_bool HN.out.1.symm, HN.out.2⟩
      · have hdi : decide ((i : Int) < (n : Int)) = false := by simp; omega
        have HX : Hid (D = true ∧ Below w.heap.size w wr) := by
          rw [show n - i = 0 by omega] at v1
          rw [foAt_end v1] at v3
          exact ⟨v3.symm.trans rfl, v4⟩
        clear HT v1 v3 v4 v5
        go_wp2
        go_ret
        exact ⟨ret_bool HX.out.1.symm, HX.out.2⟩

set_option maxRecDepth 20000 in
set_option maxHeartbeats 8000000 in
theorem rI_4 {o : Bool} {S : Nat → Prop} (x : It) (ka : Option Addr) (n c : Nat) (w : World) (hF : FoAt o S w x.args ka n) (hn : n ≤ maxLen) (hk : x.kind = 4) :
    Calls Tryd.prog 34 #[.agg #[.int .i64 x.kind, .string (bs x.name), .slice ka n c, .int .i64 x.pl]] w fun e' w' => e' = .returned (.bool (decide (x.name = []) && (decide (n = 1) && rgtF 32 x.args))) ∧ Below w.heap.size w w' := by
  have hn2 := hn
  unfold maxLen at hn2
  have k1 : (x.kind == 1) = false := by rw [beq_eq_false_iff_ne]; omega
  have k7 : (x.kind == 7) = false := by rw [beq_eq_false_iff_ne]; omega
  have k5 : (x.kind == 5) = false := by rw [beq_eq_false_iff_ne]; omega
  have k6 : (x.kind == 6) = false := by rw [beq_eq_false_iff_ne]; omega
  have k8 : (x.kind == 8) = false := by rw [beq_eq_false_iff_ne]; omega
  have k9 : (x.kind == 9) = false := by rw [beq_eq_false_iff_ne]; omega
  have kl : decide (x.kind < (1 : Int)) = false := by simp; omega
  have kg : decide ((10 : Int) < x.kind) = false := by simp; omega
  have e1 : ((bs x.name).toList == []) = decide (x.name = []) := emptyT _
  have e2 : ((n : Int) != 1) = !decide (n = 1) := by rw [bne]; exact congrArg _ (natB n 1)
  obtain ⟨g, off, hka, hF'⟩ := foAt_addr hF
  have hbx : Below w.heap.size w (w.alloc (.cells #[.int .i64 x.kind, .string (bs x.name), .slice ka n c, .int .i64 x.pl] 37)) := (Below.refl _ _).alloc (Nat.le_refl _) _
  have HB : Hid (Below w.heap.size w (w.alloc (.cells #[.int .i64 x.kind, .string (bs x.name), .slice ka n c, .int .i64 x.pl] 37)) ∧ (w.alloc (.cells #[.int .i64 x.kind, .string (bs x.name), .slice ka n c, .int .i64 x.pl] 37)).heap[w.heap.size]? = some (.cells #[.int .i64 x.kind, .string (bs x.name), .slice ka n c, .int .i64 x.pl] 37 (0, 0))) := ⟨hbx, heap_alloc_new w _⟩
  clear hk
  cases hv : decide (x.name = []) with
  | false =>
    rw [hv] at e1
    clear hv hF hF' hbx hka e2 hn
    go_enter Tryd.func34, Tryd.ntmps34
    go_wp2
    go_ret
    exact ⟨ret_bool (by simp), HB.out.1⟩
  | true =>
    rw [hv] at e1
    clear hv
    by_cases hm : n = 1
    case neg =>
      have q : ((n : Int) != 1) = true := by rw [e2]; simp [hm]
      rw [decide_eq_false hm]
      clear hF hF' hbx hka e2 hn
      go_enter Tryd.func34, Tryd.ntmps34
      go_wp2
      go_ret
      exact ⟨ret_bool (by simp), HB.out.1⟩
    have q : ((n : Int) != 1) = false := by rw [e2]; simp [hm]
    rw [decide_eq_true hm, Bool.true_and, Bool.true_and]
    generalize hD : rgtF 32 x.args = D
    have HF2 : Hid (FoAt o S (w.alloc (.cells #[.int .i64 x.kind, .string (bs x.name), .slice ka n c, .int .i64 x.pl] 37)) x.args (some ⟨g, off + 0 * 5, none⟩) (n - 0) ∧ rgtF 32 x.args = D ∧ Below w.heap.size w (w.alloc (.cells #[.int .i64 x.kind, .string (bs x.name), .slice ka n c, .int .i64 x.pl] 37)) ∧ (w.alloc (.cells #[.int .i64 x.kind, .string (bs x.name), .slice ka n c, .int .i64 x.pl] 37)).heap[w.heap.size]? = some (.cells #[.int .i64 x.kind, .string (bs x.name), .slice ka n c, .int .i64 x.pl] 37 (0, 0))) := ⟨hF'.below hbx, hD, HB.out⟩
    clear hF hF' hbx hD HB hm e2 hn
    go_enter Tryd.func34, Tryd.ntmps34
    go_wp2_with fail
    go_loopg [5] n (fun k iv wr => ∃ (F' : Fo) (i : Nat), iv = .int .i64 (i : Int) ∧ i + k = n ∧ Hid (FoAt o S wr F' (some ⟨g, off + i * 5, none⟩) (n - i) ∧ rgtF 32 F' = D ∧ Below w.heap.size w wr ∧ wr.heap[w.heap.size]? = some (.cells #[.int .i64 x.kind, .string (bs x.name), .slice ka n c, .int .i64 x.pl] 37 (0, 0))))
    case atStart => exact ⟨x.args, 0, rfl, by omega, HF2.out⟩
    case round =>
      clear HF2
      obtain ⟨F', i, rfl, hik, HT⟩ := hrel
      obtain ⟨v1, v3, v4, v5⟩ := HT.out
      have bk := blk (i := 2) v5 rfl
      by_cases hi : i < n
      · have hdi : decide ((i : Int) < (n : Int)) = true := by simp; omega
        obtain ⟨b1, o1, h1, k1, r1, ka1, kc1, kk1, rfl, -, hok1, hkc1, ⟨c0, c1, c2, c3, c4⟩, hk1, hr1⟩ := foAt_head v1 hi
        have hka2 := hka (by omega)
        subst hka2
        have HR : Hid (FoAt o S wr r1 (some ⟨g, off + (i + 1) * 5, none⟩) (n - (i + 1)) ∧ (rgtE 1 (h1, k1) && rgtF 32 r1) = D ∧ Below w.heap.size w wr ∧ wr.heap[w.heap.size]? = some (.cells #[.int .i64 x.kind, .string (bs x.name), .slice (some ⟨g, off, none⟩) n c, .int .i64 x.pl] 37 (0, 0))) := by
          have h9 := rgtF_cons (d := 0) (by omega) b1 o1 h1 k1 r1
          simp only [Nat.sub_zero, Nat.zero_add] at h9
          rw [h9] at v3
          exact ⟨hr1, v3, v4, v5⟩
        have HKx : Hid (Calls Tryd.prog 51 #[.agg #[.int .i64 h1.kind, .int .i64 h1.num, .string (bs h1.text), .slice ka1 kc1 kk1, .int .i64 h1.pl], .int .i64 1] wr fun e' w' => e' = .returned (.bool (rgtE 1 (h1, k1))) ∧ Below wr.heap.size wr w') :=
          rightE_calls _ (h1, k1) ka1 kc1 kk1 1 wr o S ⟨hok1, hkc1, hk1⟩ (Nat.lt_succ_self _)
        clear HT hk1 hr1 hok1 hkc1 v1 v3 v4 v5
        cases hk : rgtE 1 (h1, k1) with
        | true =>
          rw [hk] at HKx HR
          clear hk
          go_wp2_with fail
          refine HKx.out.mono ?_
          rintro e' w3 ⟨rfl, hb3⟩
          have HN : Hid (FoAt o S w3 r1 (some ⟨g, off + (i + 1) * 5, none⟩) (n - (i + 1)) ∧ rgtF 32 r1 = D ∧ Below w.heap.size w w3 ∧ w3.heap[w.heap.size]? = some (.cells #[.int .i64 x.kind, .string (bs x.name), .slice (some ⟨g, off, none⟩) n c, .int .i64 x.pl] 37 (0, 0))) := by
            obtain ⟨a1, a3, a4, a5⟩ := HR.out
            exact ⟨a1.below hb3, by simpa using a3, a4.trans (hb3.mono a4.size), by rw [hb3.block _ (lt_block a5)]; exact a5⟩
          clear hb3 HR HKx bk c0 c1 c2 c3 c4
          go_wp2_with fail
          go_roundg (gk - 1)
          case measure => omega
          case rel => exact ⟨r1, i + 1, by go_num, by omega, HN.out⟩
        | false =>
          rw [hk] at HKx HR
          clear hk
          go_wp2_with fail
          refine HKx.out.mono ?_
          rintro e' w3 ⟨rfl, hb3⟩
          have HN : Hid (D = false ∧ Below w.heap.size w w3) := by
            obtain ⟨_, a3, a4, _⟩ := HR.out
            exact ⟨by simpa using a3.symm, a4.trans (hb3.mono a4.size)⟩
          clear hb3 HR HKx bk c0 c1 c2 c3 c4
          go_wp2
          go_ret
          exact ⟨ret_bool HN.out.1.symm, HN.out.2⟩
      · have hdi : decide ((i : Int) < (n : Int)) = false := by simp; omega
        have HX : Hid (D = true ∧ Below w.heap.size w wr) := by
          rw [show n - i = 0 by omega] at v1
          rw [foAt_end v1] at v3
          exact ⟨v3.symm.trans rfl, v4⟩
        clear HT v1 v3 v4 v5
        go_wp2
        go_ret
        exact ⟨ret_bool HX.out.1.symm, HX.out.2⟩

set_option maxRecDepth 20000 in
set_option maxHeartbeats 8000000 in
theorem rI_10 {o : Bool} {S : Nat → Prop} (x : It) (ka : Option Addr) (n c : Nat) (w : World) (hF : FoAt o S w x.args ka n) (hn : n ≤ maxLen) (hk : x.kind = 10) :
    Calls Tryd.prog 34 #[.agg #[.int .i64 x.kind, .string (bs x.name), .slice ka n c, .int .i64 x.pl]] w fun e' w' => e' = .returned (.bool (decide (x.name = []) && (decide (n = 1) && rgtF 32 x.args))) ∧ Below w.heap.size w w' := by
  have hn2 := hn
  unfold maxLen at hn2
  have k1 : (x.kind == 1) = false := by rw [beq_eq_false_iff_ne]; omega
  have k7 : (x.kind == 7) = false := by rw [beq_eq_false_iff_ne]; omega
  have k5 : (x.kind == 5) = false := by rw [beq_eq_false_iff_ne]; omega
  have k6 : (x.kind == 6) = false := by rw [beq_eq_false_iff_ne]; omega
  have k8 : (x.kind == 8) = false := by rw [beq_eq_false_iff_ne]; omega
  have k9 : (x.kind == 9) = false := by rw [beq_eq_false_iff_ne]; omega
  have kl : decide (x.kind < (1 : Int)) = false := by simp; omega
  have kg : decide ((10 : Int) < x.kind) = false := by simp; omega
  have e1 : ((bs x.name).toList == []) = decide (x.name = []) := emptyT _
  have e2 : ((n : Int) != 1) = !decide (n = 1) := by rw [bne]; exact congrArg _ (natB n 1)
  obtain ⟨g, off, hka, hF'⟩ := foAt_addr hF
  have hbx : Below w.heap.size w (w.alloc (.cells #[.int .i64 x.kind, .string (bs x.name), .slice ka n c, .int .i64 x.pl] 37)) := (Below.refl _ _).alloc (Nat.le_refl _) _
  have HB : Hid (Below w.heap.size w (w.alloc (.cells #[.int .i64 x.kind, .string (bs x.name), .slice ka n c, .int .i64 x.pl] 37)) ∧ (w.alloc (.cells #[.int .i64 x.kind, .string (bs x.name), .slice ka n c, .int .i64 x.pl] 37)).heap[w.heap.size]? = some (.cells #[.int .i64 x.kind, .string (bs x.name), .slice ka n c, .int .i64 x.pl] 37 (0, 0))) := ⟨hbx, heap_alloc_new w _⟩
  clear hk
  cases hv : decide (x.name = []) with
  | false =>
    rw [hv] at e1
    clear hv hF hF' hbx hka e2 hn
    go_enter Tryd.func34, Tryd.ntmps34
    go_wp2
    go_ret
    exact ⟨ret_bool (by simp), HB.out.1⟩
  | true =>
    rw [hv] at e1
    clear hv
    by_cases hm : n = 1
    case neg =>
      have q : ((n : Int) != 1) = true := by rw [e2]; simp [hm]
      rw [decide_eq_false hm]
      clear hF hF' hbx hka e2 hn
      go_enter Tryd.func34, Tryd.ntmps34
      go_wp2
      go_ret
      exact ⟨ret_bool (by simp), HB.out.1⟩
    have q : ((n : Int) != 1) = false := by rw [e2]; simp [hm]
    rw [decide_eq_true hm, Bool.true_and, Bool.true_and]
    generalize hD : rgtF 32 x.args = D
    have HF2 : Hid (FoAt o S (w.alloc (.cells #[.int .i64 x.kind, .string (bs x.name), .slice ka n c, .int .i64 x.pl] 37)) x.args (some ⟨g, off + 0 * 5, none⟩) (n - 0) ∧ rgtF 32 x.args = D ∧ Below w.heap.size w (w.alloc (.cells #[.int .i64 x.kind, .string (bs x.name), .slice ka n c, .int .i64 x.pl] 37)) ∧ (w.alloc (.cells #[.int .i64 x.kind, .string (bs x.name), .slice ka n c, .int .i64 x.pl] 37)).heap[w.heap.size]? = some (.cells #[.int .i64 x.kind, .string (bs x.name), .slice ka n c, .int .i64 x.pl] 37 (0, 0))) := ⟨hF'.below hbx, hD, HB.out⟩
    clear hF hF' hbx hD HB hm e2 hn
    go_enter Tryd.func34, Tryd.ntmps34
    go_wp2_with fail
    go_loopg [5] n (fun k iv wr => ∃ (F' : Fo) (i : Nat), iv = .int .i64 (i : Int) ∧ i + k = n ∧ Hid (FoAt o S wr F' (some ⟨g, off + i * 5, none⟩) (n - i) ∧ rgtF 32 F' = D ∧ Below w.heap.size w wr ∧ wr.heap[w.heap.size]? = some (.cells #[.int .i64 x.kind, .string (bs x.name), .slice ka n c, .int .i64 x.pl] 37 (0, 0))))
    case atStart => exact ⟨x.args, 0, rfl, by omega, HF2.out⟩
    case round =>
      clear HF2
      obtain ⟨F', i, rfl, hik, HT⟩ := hrel
      obtain ⟨v1, v3, v4, v5⟩ := HT.out
      have bk := blk (i := 2) v5 rfl
      by_cases hi : i < n
      · have hdi : decide ((i : Int) < (n : Int)) = true := by simp; omega
        obtain ⟨b1, o1, h1, k1, r1, ka1, kc1, kk1, rfl, -, hok1, hkc1, ⟨c0, c1, c2, c3, c4⟩, hk1, hr1⟩ := foAt_head v1 hi
        have hka2 := hka (by omega)
        subst hka2
        have HR : Hid (FoAt o S wr r1 (some ⟨g, off + (i + 1) * 5, none⟩) (n - (i + 1)) ∧ (rgtE 1 (h1, k1) && rgtF 32 r1) = D ∧ Below w.heap.size w wr ∧ wr.heap[w.heap.size]? = some (.cells #[.int .i64 x.kind, .string (bs x.name), .slice (some ⟨g, off, none⟩) n c, .int .i64 x.pl] 37 (0, 0))) := by
          have h9 := rgtF_cons (d := 0) (by omega) b1 o1 h1 k1 r1
          simp only [Nat.sub_zero, Nat.zero_add] at h9
          rw [h9] at v3
          exact ⟨hr1, v3, v4, v5⟩
        have HKx : Hid (Calls Tryd.prog 51 #[.agg #[.int .i64 h1.kind, .int .i64 h1.num, .string (bs h1.text), .slice ka1 kc1 kk1, .int .i64 h1.pl], .int .i64 1] wr fun e' w' => e' = .returned (.bool (rgtE 1 (h1, k1))) ∧ Below wr.heap.size wr w') :=
          rightE_calls _ (h1, k1) ka1 kc1 kk1 1 wr o S ⟨hok1, hkc1, hk1⟩ (Nat.lt_succ_self _)
        clear HT hk1 hr1 hok1 hkc1 v1 v3 v4 v5
        cases hk : rgtE 1 (h1, k1) with
        | true =>
          rw [hk] at HKx HR
          clear hk
          go_wp2_with fail
          refine HKx.out.mono ?_
          rintro e' w3 ⟨rfl, hb3⟩
          have HN : Hid (FoAt o S w3 r1 (some ⟨g, off + (i + 1) * 5, none⟩) (n - (i + 1)) ∧ rgtF 32 r1 = D ∧ Below w.heap.size w w3 ∧ w3.heap[w.heap.size]? = some (.cells #[.int .i64 x.kind, .string (bs x.name), .slice (some ⟨g, off, none⟩) n c, .int .i64 x.pl] 37 (0, 0))) := by
            obtain ⟨a1, a3, a4, a5⟩ := HR.out
            exact ⟨a1.below hb3, by simpa using a3, a4.trans (hb3.mono a4.size), by rw [hb3.block _ (lt_block a5)]; exact a5⟩
          clear hb3 HR HKx bk c0 c1 c2 c3 c4
          go_wp2_with fail
          go_roundg (gk - 1)
          case measure => omega
          case rel => exact ⟨r1, i + 1, by go_num, by omega, HN.out⟩
        | false =>
          rw [hk] at HKx HR
          clear hk
          go_wp2_with fail
          refine HKx.out.mono ?_
          rintro e' w3 ⟨rfl, hb3⟩
          have HN : Hid (D = false ∧ Below w.heap.size w w3) := by
            obtain ⟨_, a3, a4, _⟩ := HR.out
            exact ⟨by simpa using a3.symm, a4.trans (hb3.mono a4.size)⟩
          clear hb3 HR HKx bk c0 c1 c2 c3 c4
          go_wp2
          go_ret
          exact ⟨ret_bool HN.out.1.symm, HN.out.2⟩
      · have hdi : decide ((i : Int) < (n : Int)) = false := by simp; omega
        have HX : Hid (D = true ∧ Below w.heap.size w wr) := by
          rw [show n - i = 0 by omega] at v1
          rw [foAt_end v1] at v3
          exact ⟨v3.symm.trans rfl, v4⟩
        clear HT v1 v3 v4 v5
        go_wp2
        go_ret
        exact ⟨ret_bool HX.out.1.symm, HX.out.2⟩

end Go.Proofs.YtpeldiibjhffiaaDoor
namespace Go.Proofs.YtpeldiibjhffiaaDoor
open Go.RowKit Go.Deep

set_option maxRecDepth 20000 in
set_option maxHeartbeats 8000000 in
theorem rI_5 {o : Bool} {S : Nat → Prop} (x : It) (ka : Option Addr) (n c : Nat) (w : World) (hF : FoAt o S w x.args ka n) (hn : n ≤ maxLen) (hk : x.kind = 5) :
    Calls Tryd.prog 34 #[.agg #[.int .i64 x.kind, .string (bs x.name), .slice ka n c, .int .i64 x.pl]] w fun e' w' => e' = .returned (.bool (decide (x.name = []) && (decide (n = 2) && rgtF 32 x.args))) ∧ Below w.heap.size w w' := by
  have hn2 := hn
  unfold maxLen at hn2
  have k1 : (x.kind == 1) = false := by rw [beq_eq_false_iff_ne]; omega
  have k7 : (x.kind == 7) = false := by rw [beq_eq_false_iff_ne]; omega
  have k5 : (x.kind == 5) = true := by rw [beq_iff_eq]; omega
  have kl : decide (x.kind < (1 : Int)) = false := by simp; omega
  have kg : decide ((10 : Int) < x.kind) = false := by simp; omega
  have e1 : ((bs x.name).toList == []) = decide (x.name = []) := emptyT _
  have e2 : ((n : Int) != 2) = !decide (n = 2) := by rw [bne]; exact congrArg _ (natB n 2)
  obtain ⟨g, off, hka, hF'⟩ := foAt_addr hF
  have hbx : Below w.heap.size w (w.alloc (.cells #[.int .i64 x.kind, .string (bs x.name), .slice ka n c, .int .i64 x.pl] 37)) := (Below.refl _ _).alloc (Nat.le_refl _) _
  have HB : Hid (Below w.heap.size w (w.alloc (.cells #[.int .i64 x.kind, .string (bs x.name), .slice ka n c, .int .i64 x.pl] 37)) ∧ (w.alloc (.cells #[.int .i64 x.kind, .string (bs x.name), .slice ka n c, .int .i64 x.pl] 37)).heap[w.heap.size]? = some (.cells #[.int .i64 x.kind, .string (bs x.name), .slice ka n c, .int .i64 x.pl] 37 (0, 0))) := ⟨hbx, heap_alloc_new w _⟩
  clear hk
  cases hv : decide (x.name = []) with
  | false =>
    rw [hv] at e1
    clear hv hF hF' hbx hka e2 hn
    go_enter Tryd.func34, Tryd.ntmps34
    go_wp2
    go_ret
    exact ⟨ret_bool (by simp), HB.out.1⟩
  | true =>
    rw [hv] at e1
    clear hv
    by_cases hm : n = 2
    case neg =>
      have q : ((n : Int) != 2) = true := by rw [e2]; simp [hm]
      rw [decide_eq_false hm]
      clear hF hF' hbx hka e2 hn
      go_enter Tryd.func34, Tryd.ntmps34
      go_wp2
      go_ret
      exact ⟨ret_bool (by simp), HB.out.1⟩
    have q : ((n : Int) != 2) = false := by rw [e2]; simp [hm]
    rw [decide_eq_true hm, Bool.true_and, Bool.true_and]
    generalize hD : rgtF 32 x.args = D
    have HF2 : Hid (FoAt o S (w.alloc (.cells #[.int .i64 x.kind, .string (bs x.name), .slice ka n c, .int .i64 x.pl] 37)) x.args (some ⟨g, off + 0 * 5, none⟩) (n - 0) ∧ rgtF 32 x.args = D ∧ Below w.heap.size w (w.alloc (.cells #[.int .i64 x.kind, .string (bs x.name), .slice ka n c, .int .i64 x.pl] 37)) ∧ (w.alloc (.cells #[.int .i64 x.kind, .string (bs x.name), .slice ka n c, .int .i64 x.pl] 37)).heap[w.heap.size]? = some (.cells #[.int .i64 x.kind, .string (bs x.name), .slice ka n c, .int .i64 x.pl] 37 (0, 0))) := ⟨hF'.below hbx, hD, HB.out⟩
    clear hF hF' hbx hD HB hm e2 hn
    go_enter Tryd.func34, Tryd.ntmps34
    go_wp2_with fail
    go_loopg [5] n (fun k iv wr => ∃ (F' : Fo) (i : Nat), iv = .int .i64 (i : Int) ∧ i + k = n ∧ Hid (FoAt o S wr F' (some ⟨g, off + i * 5, none⟩) (n - i) ∧ rgtF 32 F' = D ∧ Below w.heap.size w wr ∧ wr.heap[w.heap.size]? = some (.cells #[.int .i64 x.kind, .string (bs x.name), .slice ka n c, .int .i64 x.pl] 37 (0, 0))))
    case atStart => exact ⟨x.args, 0, rfl, by omega, HF2.out⟩
    case round =>
      clear HF2
      obtain ⟨F', i, rfl, hik, HT⟩ := hrel
      obtain ⟨v1, v3, v4, v5⟩ := HT.out
      have bk := blk (i := 2) v5 rfl
      by_cases hi : i < n
      · have hdi : decide ((i : Int) < (n : Int)) = true := by simp; omega
        obtain ⟨b1, o1, h1, k1, r1, ka1, kc1, kk1, rfl, -, hok1, hkc1, ⟨c0, c1, c2, c3, c4⟩, hk1, hr1⟩ := foAt_head v1 hi
        have hka2 := hka (by omega)
        subst hka2
        have HR : Hid (FoAt o S wr r1 (some ⟨g, off + (i + 1) * 5, none⟩) (n - (i + 1)) ∧ (rgtE 1 (h1, k1) && rgtF 32 r1) = D ∧ Below w.heap.size w wr ∧ wr.heap[w.heap.size]? = some (.cells #[.int .i64 x.kind, .string (bs x.name), .slice (some ⟨g, off, none⟩) n c, .int .i64 x.pl] 37 (0, 0))) := by
          have h9 := rgtF_cons (d := 0) (by omega) b1 o1 h1 k1 r1
          simp only [Nat.sub_zero, Nat.zero_add] at h9
          rw [h9] at v3
          exact ⟨hr1, v3, v4, v5⟩
        have HKx : Hid (Calls Tryd.prog 51 #[.agg #[.int .i64 h1.kind, .int .i64 h1.num, .string (bs h1.text), .slice ka1 kc1 kk1, .int .i64 h1.pl], .int .i64 1] wr fun e' w' => e' = .returned (.bool (rgtE 1 (h1, k1))) ∧ Below wr.heap.size wr w') :=
          rightE_calls _ (h1, k1) ka1 kc1 kk1 1 wr o S ⟨hok1, hkc1, hk1⟩ (Nat.lt_succ_self _)
        clear HT hk1 hr1 hok1 hkc1 v1 v3 v4 v5
        cases hk : rgtE 1 (h1, k1) with
        | true =>
          rw [hk] at HKx HR
          clear hk
          go_wp2_with fail
          refine HKx.out.mono ?_
          rintro e' w3 ⟨rfl, hb3⟩
          have HN : Hid (FoAt o S w3 r1 (some ⟨g, off + (i + 1) * 5, none⟩) (n - (i + 1)) ∧ rgtF 32 r1 = D ∧ Below w.heap.size w w3 ∧ w3.heap[w.heap.size]? = some (.cells #[.int .i64 x.kind, .string (bs x.name), .slice (some ⟨g, off, none⟩) n c, .int .i64 x.pl] 37 (0, 0))) := by
            obtain ⟨a1, a3, a4, a5⟩ := HR.out
            exact ⟨a1.below hb3, by simpa using a3, a4.trans (hb3.mono a4.size), by rw [hb3.block _ (lt_block a5)]; exact a5⟩
          clear hb3 HR HKx bk c0 c1 c2 c3 c4
          go_wp2_with fail
          go_roundg (gk - 1)
          case measure => omega
          case rel => exact ⟨r1, i + 1, by go_num, by omega, HN.out⟩
        | false =>
          rw [hk] at HKx HR
          clear hk
          go_wp2_with fail
          refine HKx.out.mono ?_
          rintro e' w3 ⟨rfl, hb3⟩
          have HN : Hid (D = false ∧ Below w.heap.size w w3) := by
            obtain ⟨_, a3, a4, _⟩ := HR.out
            exact ⟨by simpa using a3.symm, a4.trans (hb3.mono a4.size)⟩
          clear hb3 HR HKx bk c0 c1 c2 c3 c4
          go_wp2
          go_ret
          exact ⟨ret_bool HN.out.1.symm, HN.out.2⟩
      · have hdi : decide ((i : Int) < (n : Int)) = false := by simp; omega
        have HX : Hid (D = true ∧ Below w.heap.size w wr) := by
          rw [show n - i = 0 by omega] at v1
          rw [foAt_end v1] at v3
          exact ⟨v3.symm.trans rfl, v4⟩
        clear HT v1 v3 v4 v5
        go_wp2
        go_ret
        exact ⟨ret_bool HX.out.1.symm, HX.out.2⟩

set_option maxRecDepth 20000 in
set_option maxHeartbeats 8000000 in
theorem rI_6 {o : Bool} {S : Nat → Prop} (x : It) (ka : Option Addr) (n c : Nat) (w : World) (hF : FoAt o S w x.args ka n) (hn : n ≤ maxLen) (hk : x.kind = 6) :
    Calls Tryd.prog 34 #[.agg #[.int .i64 x.kind, .string (bs x.name), .slice ka n c, .int .i64 x.pl]] w fun e' w' => e' = .returned (.bool (decide (x.name = []) && (decide (n = 2) && rgtF 32 x.args))) ∧ Below w.heap.size w w' := by
  have hn2 := hn
  unfold maxLen at hn2
  have k1 : (x.kind == 1) = false := by rw [beq_eq_false_iff_ne]; omega
  have k7 : (x.kind == 7) = false := by rw [beq_eq_false_iff_ne]; omega
  have k5 : (x.kind == 5) = false := by rw [beq_eq_false_iff_ne]; omega
  have k6 : (x.kind == 6) = true := by rw [beq_iff_eq]; omega
  have kl : decide (x.kind < (1 : Int)) = false := by simp; omega
  have kg : decide ((10 : Int) < x.kind) = false := by simp; omega
  have e1 : ((bs x.name).toList == []) = decide (x.name = []) := emptyT _
  have e2 : ((n : Int) != 2) = !decide (n = 2) := by rw [bne]; exact congrArg _ (natB n 2)
  obtain ⟨g, off, hka, hF'⟩ := foAt_addr hF
  have hbx : Below w.heap.size w (w.alloc (.cells #[.int .i64 x.kind, .string (bs x.name), .slice ka n c, .int .i64 x.pl] 37)) := (Below.refl _ _).alloc (Nat.le_refl _) _
  have HB : Hid (Below w.heap.size w (w.alloc (.cells #[.int .i64 x.kind, .string (bs x.name), .slice ka n c, .int .i64 x.pl] 37)) ∧ (w.alloc (.cells #[.int .i64 x.kind, .string (bs x.name), .slice ka n c, .int .i64 x.pl] 37)).heap[w.heap.size]? = some (.cells #[.int .i64 x.kind, .string (bs x.name), .slice ka n c, .int .i64 x.pl] 37 (0, 0))) := ⟨hbx, heap_alloc_new w _⟩
  clear hk
  cases hv : decide (x.name = []) with
  | false =>
    rw [hv] at e1
    clear hv hF hF' hbx hka e2 hn
    go_enter Tryd.func34, Tryd.ntmps34
    go_wp2
    go_ret
    exact ⟨ret_bool (by simp), HB.out.1⟩
  | true =>
    rw [hv] at e1
    clear hv
    by_cases hm : n = 2
    case neg =>
      have q : ((n : Int) != 2) = true := by rw [e2]; simp [hm]
      rw [decide_eq_false hm]
      clear hF hF' hbx hka e2 hn
      go_enter Tryd.func34, Tryd.ntmps34
      go_wp2
      go_ret
      exact ⟨ret_bool (by simp), HB.out.1⟩
    have q : ((n : Int) != 2) = false := by rw [e2]; simp [hm]
    rw [decide_eq_true hm, Bool.true_and, Bool.true_and]
    generalize hD : rgtF 32 x.args = D
    have HF2 : Hid (FoAt o S (w.alloc (.cells #[.int .i64 x.kind, .string (bs x.name), .slice ka n c, .int .i64 x.pl] 37)) x.args (some ⟨g, off + 0 * 5, none⟩) (n - 0) ∧ rgtF 32 x.args = D ∧ Below w.heap.size w (w.alloc (.cells #[.int .i64 x.kind, .string (bs x.name), .slice ka n c, .int .i64 x.pl] 37)) ∧ (w.alloc (.cells #[.int .i64 x.kind, .string (bs x.name), .slice ka n c, .int .i64 x.pl] 37)).heap[w.heap.size]? = some (.cells #[.int .i64 x.kind, .string (bs x.name), .slice ka n c, .int .i64 x.pl] 37 (0, 0))) := ⟨hF'.below hbx, hD, HB.out⟩
    clear hF hF' hbx hD HB hm e2 hn
    go_enter Tryd.func34, Tryd.ntmps34
    go_wp2_with fail
    go_loopg [5] n (fun k iv wr => ∃ (F' : Fo) (i : Nat), iv = .int .i64 (i : Int) ∧ i + k = n ∧ Hid (FoAt o S wr F' (some ⟨g, off + i * 5, none⟩) (n - i) ∧ rgtF 32 F' = D ∧ Below w.heap.size w wr ∧ wr.heap[w.heap.size]? = some (.cells #[.int .i64 x.kind, .string (bs x.name), .slice ka n c, .int .i64 x.pl] 37 (0, 0))))
    case atStart => exact ⟨x.args, 0, rfl, by omega, HF2.out⟩
    case round =>
      clear HF2
      obtain ⟨F', i, rfl, hik, HT⟩ := hrel
      obtain ⟨v1, v3, v4, v5⟩ := HT.out
      have bk := blk (i := 2) v5 rfl
      by_cases hi : i < n
      · have hdi : decide ((i : Int) < (n : Int)) = true := by simp; omega
        obtain ⟨b1, o1, h1, k1, r1, ka1, kc1, kk1, rfl, -, hok1, hkc1, ⟨c0, c1, c2, c3, c4⟩, hk1, hr1⟩ := foAt_head v1 hi
        have hka2 := hka (by omega)
        subst hka2
        have HR : Hid (FoAt o S wr r1 (some ⟨g, off + (i + 1) * 5, none⟩) (n - (i + 1)) ∧ (rgtE 1 (h1, k1) && rgtF 32 r1) = D ∧ Below w.heap.size w wr ∧ wr.heap[w.heap.size]? = some (.cells #[.int .i64 x.kind, .string (bs x.name), .slice (some ⟨g, off, none⟩) n c, .int .i64 x.pl] 37 (0, 0))) := by
          have h9 := rgtF_cons (d := 0) (by omega) b1 o1 h1 k1 r1
          simp only [Nat.sub_zero, Nat.zero_add] at h9
          rw [h9] at v3
          exact ⟨hr1, v3, v4, v5⟩
        have HKx : Hid (Calls Tryd.prog 51 #[.agg #[.int .i64 h1.kind, .int .i64 h1.num, .string (bs h1.text), .slice ka1 kc1 kk1, .int .i64 h1.pl], .int .i64 1] wr fun e' w' => e' = .returned (.bool (rgtE 1 (h1, k1))) ∧ Below wr.heap.size wr w') :=
          rightE_calls _ (h1, k1) ka1 kc1 kk1 1 wr o S ⟨hok1, hkc1, hk1⟩ (Nat.lt_succ_self _)
        clear HT hk1 hr1 hok1 hkc1 v1 v3 v4 v5
        cases hk : rgtE 1 (h1, k1) with
        | true =>
          rw [hk] at HKx HR
          clear hk
          go_wp2_with fail
          refine HKx.out.mono ?_
          rintro e' w3 ⟨rfl, hb3⟩
          have HN : Hid (FoAt o S w3 r1 (some ⟨g, off + (i + 1) * 5, none⟩) (n - (i + 1)) ∧ rgtF 32 r1 = D ∧ Below w.heap.size w w3 ∧ w3.heap[w.heap.size]? = some (.cells #[.int .i64 x.kind, .string (bs x.name), .slice (some ⟨g, off, none⟩) n c, .int .i64 x.pl] 37 (0, 0))) := by
            obtain ⟨a1, a3, a4, a5⟩ := HR.out
            exact ⟨a1.below hb3, by simpa using a3, a4.trans (hb3.mono a4.size), by rw [hb3.block _ (lt_block a5)]; exact a5⟩
          clear hb3 HR HKx bk c0 c1 c2 c3 c4
          go_wp2_with fail
          go_roundg (gk - 1)
          case measure => omega
          case rel => exact ⟨r1, i + 1, by go_num, by omega, HN.out⟩
        | false =>
          rw [hk] at HKx HR
          clear hk
          go_wp2_with fail
          refine HKx.out.mono ?_
          rintro e' w3 ⟨rfl, hb3⟩
          have HN : Hid (D = false ∧ Below w.heap.size w w3) := by
            obtain ⟨_, a3, a4, _⟩ := HR.out
            exact ⟨by simpa using a3.symm, a4.trans (hb3.mono a4.size)⟩
          clear hb3 HR HKx bk c0 c1 c2 c3 c4
          go_wp2
          go_ret
          exact ⟨ret_bool HN.out.1.symm, HN.out.2⟩
      · have hdi : decide ((i : Int) < (n : Int)) = false := by simp; omega
        have HX : Hid (D = true ∧ Below w.heap.size w wr) := by
          rw [show n - i = 0 by omega] at v1
          rw [foAt_end v1] at v3
          exact ⟨v3.symm.trans rfl, v4⟩
        clear HT v1 v3 v4 v5
        go_wp2
        go_ret
        exact ⟨ret_bool HX.out.1.symm, HX.out.2⟩

set_option maxRecDepth 20000 in
set_option maxHeartbeats 8000000 in
theorem rI_8 {o : Bool} {S : Nat → Prop} (x : It) (ka : Option Addr) (n c : Nat) (w : World) (hF : FoAt o S w x.args ka n) (hn : n ≤ maxLen) (hk : x.kind = 8) :
    Calls Tryd.prog 34 #[.agg #[.int .i64 x.kind, .string (bs x.name), .slice ka n c, .int .i64 x.pl]] w fun e' w' => e' = .returned (.bool (decide (x.name = []) && (decide (n = 2) && rgtF 32 x.args))) ∧ Below w.heap.size w w' := by
  have hn2 := hn
  unfold maxLen at hn2
  have k1 : (x.kind == 1) = false := by rw [beq_eq_false_iff_ne]; omega
  have k7 : (x.kind == 7) = false := by rw [beq_eq_false_iff_ne]; omega
  have k5 : (x.kind == 5) = false := by rw [beq_eq_false_iff_ne]; omega
  have k6 : (x.kind == 6) = false := by rw [beq_eq_false_iff_ne]; omega
  have k8 : (x.kind == 8) = true := by rw [beq_iff_eq]; omega
  have kl : decide (x.kind < (1 : Int)) = false := by simp; omega
  have kg : decide ((10 : Int) < x.kind) = false := by simp; omega
  have e1 : ((bs x.name).toList == []) = decide (x.name = []) := emptyT _
  have e2 : ((n : Int) != 2) = !decide (n = 2) := by rw [bne]; exact congrArg _ (natB n 2)
  obtain ⟨g, off, hka, hF'⟩ := foAt_addr hF
  have hbx : Below w.heap.size w (w.alloc (.cells #[.int .i64 x.kind, .string (bs x.name), .slice ka n c, .int .i64 x.pl] 37)) := (Below.refl _ _).alloc (Nat.le_refl _) _
  have HB : Hid (Below w.heap.size w (w.alloc (.cells #[.int .i64 x.kind, .string (bs x.name), .slice ka n c, .int .i64 x.pl] 37)) ∧ (w.alloc (.cells #[.int .i64 x.kind, .string (bs x.name), .slice ka n c, .int .i64 x.pl] 37)).heap[w.heap.size]? = some (.cells #[.int .i64 x.kind, .string (bs x.name), .slice ka n c, .int .i64 x.pl] 37 (0, 0))) := ⟨hbx, heap_alloc_new w _⟩
  clear hk
  cases hv : decide (x.name = []) with
  | false =>
    rw [hv] at e1
    clear hv hF hF' hbx hka e2 hn
    go_enter Tryd.func34, Tryd.ntmps34
    go_wp2
    go_ret
    exact ⟨ret_bool (by simp), HB.out.1⟩
  | true =>
    rw [hv] at e1
    clear hv
    by_cases hm : n = 2
    case neg =>
      have q : ((n : Int) != 2) = true := by rw [e2]; simp [hm]
      rw [decide_eq_false hm]
      clear hF hF' hbx hka e2 hn
      go_enter Tryd.func34, Tryd.ntmps34
      go_wp2
      go_ret
      exact ⟨ret_bool (by simp), HB.out.1⟩
    have q : ((n : Int) != 2) = false := by rw [e2]; simp [hm]
    rw [decide_eq_true hm, Bool.true_and, Bool.true_and]
    generalize hD : rgtF 32 x.args = D
    have HF2 : Hid (FoAt o S (w.alloc (.cells #[.int .i64 x.kind, .string (bs x.name), .slice ka n c, .int .i64 x.pl] 37)) x.args (some ⟨g, off + 0 * 5, none⟩) (n - 0) ∧ rgtF 32 x.args = D ∧ Below w.heap.size w (w.alloc (.cells #[.int .i64 x.kind, .string (bs x.name), .slice ka n c, .int .i64 x.pl] 37)) ∧ (w.alloc (.cells #[.int .i64 x.kind, .string (bs x.name), .slice ka n c, .int .i64 x.pl] 37)).heap[w.heap.size]? = some (.cells #[.int .i64 x.kind, .string (bs x.name), .slice ka n c, .int .i64 x.pl] 37 (0, 0))) := ⟨hF'.below hbx, hD, HB.out⟩
    clear hF hF' hbx hD HB hm e2 hn
    go_enter Tryd.func34, Tryd.ntmps34
    go_wp2_with fail
    go_loopg [5] n (fun k iv wr => ∃ (F' : Fo) (i : Nat), iv = .int .i64 (i : Int) ∧ i + k = n ∧ Hid (FoAt o S wr F' (some ⟨g, off + i * 5, none⟩) (n - i) ∧ rgtF 32 F' = D ∧ Below w.heap.size w wr ∧ wr.heap[w.heap.size]? = some (.cells #[.int .i64 x.kind, .string (bs x.name), .slice ka n c, .int .i64 x.pl] 37 (0, 0))))
    case atStart => exact ⟨x.args, 0, rfl, by omega, HF2.out⟩
    case round =>
      clear HF2
      obtain ⟨F', i, rfl, hik, HT⟩ := hrel
      obtain ⟨v1, v3, v4, v5⟩ := HT.out
      have bk := blk (i := 2) v5 rfl
      by_cases hi : i < n
      · have hdi : decide ((i : Int) < (n : Int)) = true := by simp; omega
        obtain ⟨b1, o1, h1, k1, r1, ka1, kc1, kk1, rfl, -, hok1, hkc1, ⟨c0, c1, c2, c3, c4⟩, hk1, hr1⟩ := foAt_head v1 hi
        have hka2 := hka (by omega)
        subst hka2
        have HR : Hid (FoAt o S wr r1 (some ⟨g, off + (i + 1) * 5, none⟩) (n - (i + 1)) ∧ (rgtE 1 (h1, k1) && rgtF 32 r1) = D ∧ Below w.heap.size w wr ∧ wr.heap[w.heap.size]? = some (.cells #[.int .i64 x.kind, .string (bs x.name), .slice (some ⟨g, off, none⟩) n c, .int .i64 x.pl] 37 (0, 0))) := by
          have h9 := rgtF_cons (d := 0) (by omega) b1 o1 h1 k1 r1
          simp only [Nat.sub_zero, Nat.zero_add] at h9
          rw [h9] at v3
          exact ⟨hr1, v3, v4, v5⟩
        have HKx : Hid (Calls Tryd.prog 51 #[.agg #[.int .i64 h1.kind, .int .i64 h1.num, .string (bs h1.text), .slice ka1 kc1 kk1, .int .i64 h1.pl], .int .i64 1] wr fun e' w' => e' = .returned (.bool (rgtE 1 (h1, k1))) ∧ Below wr.heap.size wr w') :=
          rightE_calls _ (h1, k1) ka1 kc1 kk1 1 wr o S ⟨hok1, hkc1, hk1⟩ (Nat.lt_succ_self _)
        clear HT hk1 hr1 hok1 hkc1 v1 v3 v4 v5
        cases hk : rgtE 1 (h1, k1) with
        | true =>
          rw [hk] at HKx HR
          clear hk
          go_wp2_with fail
          refine HKx.out.mono ?_
          rintro e' w3 ⟨rfl, hb3⟩
          have HN : Hid (FoAt o S w3 r1 (some ⟨g, off + (i + 1) * 5, none⟩) (n - (i + 1)) ∧ rgtF 32 r1 = D ∧ Below w.heap.size w w3 ∧ w3.heap[w.heap.size]? = some (.cells #[.int .i64 x.kind, .string (bs x.name), .slice (some ⟨g, off, none⟩) n c, .int .i64 x.pl] 37 (0, 0))) := by
            obtain ⟨a1, a3, a4, a5⟩ := HR.out
            exact ⟨a1.below hb3, by simpa using a3, a4.trans (hb3.mono a4.size), by rw [hb3.block _ (lt_block a5)]; exact a5⟩
          clear hb3 HR HKx bk c0 c1 c2 c3 c4
          go_wp2_with fail
          go_roundg (gk - 1)
          case measure => omega
          case rel => exact ⟨r1, i + 1, by go_num, by omega, HN.out⟩
        | false =>
          rw [hk] at HKx HR
          clear hk
          go_wp2_with fail
          refine HKx.out.mono ?_
          rintro e' w3 ⟨rfl, hb3⟩
          have HN : Hid (D = false ∧ Below w.heap.size w w3) := by
            obtain ⟨_, a3, a4, _⟩ := HR.out
            exact ⟨by simpa using a3.symm, a4.trans (hb3.mono a4.size)⟩
          clear hb3 HR HKx bk c0 c1 c2 c3 c4
          go_wp2
          go_ret
          exact ⟨ret_bool HN.out.1.symm, HN.out.2⟩
      · have hdi : decide ((i : Int) < (n : Int)) = false := by simp; omega
        have HX : Hid (D = true ∧ Below w.heap.size w wr) := by
          rw [show n - i = 0 by omega] at v1
          rw [foAt_end v1] at v3
          exact ⟨v3.symm.trans rfl, v4⟩
        clear HT v1 v3 v4 v5
        go_wp2
        go_ret
        exact ⟨ret_bool HX.out.1.symm, HX.out.2⟩

set_option maxRecDepth 20000 in
set_option maxHeartbeats 8000000 in
theorem rI_9 {o : Bool} {S : Nat → Prop} (x : It) (ka : Option Addr) (n c : Nat) (w : World) (hF : FoAt o S w x.args ka n) (hn : n ≤ maxLen) (hk : x.kind = 9) :
    Calls Tryd.prog 34 #[.agg #[.int .i64 x.kind, .string (bs x.name), .slice ka n c, .int .i64 x.pl]] w fun e' w' => e' = .returned (.bool (decide (x.name = []) && (decide (n = 2) && rgtF 32 x.args))) ∧ Below w.heap.size w w' := by
  have hn2 := hn
  unfold maxLen at hn2
  have k1 : (x.kind == 1) = false := by rw [beq_eq_false_iff_ne]; omega
  have k7 : (x.kind == 7) = false := by rw [beq_eq_false_iff_ne]; omega
  have k5 : (x.kind == 5) = false := by rw [beq_eq_false_iff_ne]; omega
  have k6 : (x.kind == 6) = false := by rw [beq_eq_false_iff_ne]; omega
  have k8 : (x.kind == 8) = false := by rw [beq_eq_false_iff_ne]; omega
  have k9 : (x.kind == 9) = true := by rw [beq_iff_eq]; omega
  have kl : decide (x.kind < (1 : Int)) = false := by simp; omega
  have kg : decide ((10 : Int) < x.kind) = false := by simp; omega
  have e1 : ((bs x.name).toList == []) = decide (x.name = []) := emptyT _
  have e2 : ((n : Int) != 2) = !decide (n = 2) := by rw [bne]; exact congrArg _ (natB n 2)
  obtain ⟨g, off, hka, hF'⟩ := foAt_addr hF
  have hbx : Below w.heap.size w (w.alloc (.cells #[.int .i64 x.kind, .string (bs x.name), .slice ka n c, .int .i64 x.pl] 37)) := (Below.refl _ _).alloc (Nat.le_refl _) _
  have HB : Hid (Below w.heap.size w (w.alloc (.cells #[.int .i64 x.kind, .string (bs x.name), .slice ka n c, .int .i64 x.pl] 37)) ∧ (w.alloc (.cells #[.int .i64 x.kind, .string (bs x.name), .slice ka n c, .int .i64 x.pl] 37)).heap[w.heap.size]? = some (.cells #[.int .i64 x.kind, .string (bs x.name), .slice ka n c, .int .i64 x.pl] 37 (0, 0))) := ⟨hbx, heap_alloc_new w _⟩
  clear hk
  cases hv : decide (x.name = []) with
  | false =>
    rw [hv] at e1
    clear hv hF hF' hbx hka e2 hn
    go_enter Tryd.func34, Tryd.ntmps34
    go_wp2
    go_ret
    exact ⟨ret_bool (by simp), HB.out.1⟩
  | true =>
    rw [hv] at e1
    clear hv
    by_cases hm : n = 2
    case neg =>
      have q : ((n : Int) != 2) = true := by rw [e2]; simp [hm]
      rw [decide_eq_false hm]
      clear hF hF' hbx hka e2 hn
      go_enter Tryd.func34, Tryd.ntmps34
      go_wp2
      go_ret
      exact ⟨ret_bool (by simp), HB.out.1⟩
    have q : ((n : Int) != 2) = false := by rw [e2]; simp [hm]
    rw [decide_eq_true hm, Bool.true_and, Bool.true_and]
    generalize hD : rgtF 32 x.args = D
    have HF2 : Hid (FoAt o S (w.alloc (.cells #[.int .i64 x.kind, .string (bs x.name), .slice ka n c, .int .i64 x.pl] 37)) x.args (some ⟨g, off + 0 * 5, none⟩) (n - 0) ∧ rgtF 32 x.args = D ∧ Below w.heap.size w (w.alloc (.cells #[.int .i64 x.kind, .string (bs x.name), .slice ka n c, .int .i64 x.pl] 37)) ∧ (w.alloc (.cells #[.int .i64 x.kind, .string (bs x.name), .slice ka n c, .int .i64 x.pl] 37)).heap[w.heap.size]? = some (.cells #[.int .i64 x.kind, .string (bs x.name), .slice ka n c, .int .i64 x.pl] 37 (0, 0))) := ⟨hF'.below hbx, hD, HB.out⟩
    clear hF hF' hbx hD HB hm e2 hn
    go_enter Tryd.func34, Tryd.ntmps34
    go_wp2_with fail
    go_loopg [5] n (fun k iv wr => ∃ (F' : Fo) (i : Nat), iv = .int .i64 (i : Int) ∧ i + k = n ∧ Hid (FoAt o S wr F' (some ⟨g, off + i * 5, none⟩) (n - i) ∧ rgtF 32 F' = D ∧ Below w.heap.size w wr ∧ wr.heap[w.heap.size]? = some (.cells #[.int .i64 x.kind, .string (bs x.name), .slice ka n c, .int .i64 x.pl] 37 (0, 0))))
    case atStart => exact ⟨x.args, 0, rfl, by omega, HF2.out⟩
    case round =>
      clear HF2
      obtain ⟨F', i, rfl, hik, HT⟩ := hrel
      obtain ⟨v1, v3, v4, v5⟩ := HT.out
      have bk := blk (i := 2) v5 rfl
      by_cases hi : i < n
      · have hdi : decide ((i : Int) < (n : Int)) = true := by simp; omega
        obtain ⟨b1, o1, h1, k1, r1, ka1, kc1, kk1, rfl, -, hok1, hkc1, ⟨c0, c1, c2, c3, c4⟩, hk1, hr1⟩ := foAt_head v1 hi
        have hka2 := hka (by omega)
        subst hka2
        have HR : Hid (FoAt o S wr r1 (some ⟨g, off + (i + 1) * 5, none⟩) (n - (i + 1)) ∧ (rgtE 1 (h1, k1) && rgtF 32 r1) = D ∧ Below w.heap.size w wr ∧ wr.heap[w.heap.size]? = some (.cells #[.int .i64 x.kind, .string (bs x.name), .slice (some ⟨g, off, none⟩) n c, .int .i64 x.pl] 37 (0, 0))) := by
          have h9 := rgtF_cons (d := 0) (by omega) b1 o1 h1 k1 r1
          simp only [Nat.sub_zero, Nat.zero_add] at h9
          rw [h9] at v3
          exact ⟨hr1, v3, v4, v5⟩
        have HKx : Hid (Calls Tryd.prog 51 #[.agg #[.int .i64 h1.kind, .int .i64 h1.num, .string (bs h1.text), .slice ka1 kc1 kk1, .int .i64 h1.pl], .int .i64 1] wr fun e' w' => e' = .returned (.bool (rgtE 1 (h1, k1))) ∧ Below wr.heap.size wr w') :=
          rightE_calls _ (h1, k1) ka1 kc1 kk1 1 wr o S ⟨hok1, hkc1, hk1⟩ (Nat.lt_succ_self _)
        clear HT hk1 hr1 hok1 hkc1 v1 v3 v4 v5
        cases hk : rgtE 1 (h1, k1) with
        | true =>
          rw [hk] at HKx HR
          clear hk
          go_wp2_with fail
          refine HKx.out.mono ?_
          rintro e' w3 ⟨rfl, hb3⟩
          have HN : Hid (FoAt o S w3 r1 (some ⟨g, off + (i + 1) * 5, none⟩) (n - (i + 1)) ∧ rgtF 32 r1 = D ∧ Below w.heap.size w w3 ∧ w3.heap[w.heap.size]? = some (.cells #[.int .i64 x.kind, .string (bs x.name), .slice (some ⟨g, off, none⟩) n c, .int .i64 x.pl] 37 (0, 0))) := by
            obtain ⟨a1, a3, a4, a5⟩ := HR.out
            exact ⟨a1.below hb3, by simpa using a3, a4.trans (hb3.mono a4.size), by rw [hb3.block _ (lt_block a5)]; exact a5⟩
          clear hb3 HR HKx bk c0 c1 c2 c3 c4
          go_wp2_with fail
          go_roundg (gk - 1)
          case measure => omega
          case rel => exact ⟨r1, i + 1, by go_num, by omega, HN.out⟩
        | false =>
          rw [hk] at HKx HR
          clear hk
          go_wp2_with fail
          refine HKx.out.mono ?_
          rintro e' w3 ⟨rfl, hb3⟩
          have HN : Hid (D = false ∧ Below w.heap.size w w3) := by
            obtain ⟨_, a3, a4, _⟩ := HR.out
            exact ⟨by simpa using a3.symm, a4.trans (hb3.mono a4.size)⟩
          clear hb3 HR HKx bk c0 c1 c2 c3 c4
          go_wp2
          go_ret
          exact ⟨ret_bool HN.out.1.symm, HN.out.2⟩
      · have hdi : decide ((i : Int) < (n : Int)) = false := by simp; omega
        have HX : Hid (D = true ∧ Below w.heap.size w wr) := by
          rw [show n - i = 0 by omega] at v1
          rw [foAt_end v1] at v3
          exact ⟨v3.symm.trans rfl, v4⟩
        clear HT v1 v3 v4 v5
        go_wp2
        go_ret
        exact ⟨ret_bool HX.out.1.symm, HX.out.2⟩

end Go.Proofs.YtpeldiibjhffiaaDoor
namespace Go.Proofs.YtpeldiibjhffiaaDoor
open Go.RowKit Go.Deep

set_option maxRecDepth 20000 in
set_option maxHeartbeats 8000000 in
theorem rI_1 {o : Bool} {S : Nat → Prop} (x : It) (ka : Option Addr) (n c : Nat) (w : World) (hF : FoAt o S w x.args ka n) (hn : n ≤ maxLen) (hk : x.kind = 1) :
    Calls Tryd.prog 34 #[.agg #[.int .i64 x.kind, .string (bs x.name), .slice ka n c, .int .i64 x.pl]] w fun e' w' => e' = .returned (.bool (nameB x.name && (decide (n = 1) && rgtF 32 x.args))) ∧ Below w.heap.size w w' := by
  have hn2 := hn
  unfold maxLen at hn2
  have k1 : (x.kind == 1) = true := by rw [beq_iff_eq]; omega
  have kl : decide (x.kind < (1 : Int)) = false := by simp; omega
  have kg : decide ((10 : Int) < x.kind) = false := by simp; omega
  have e1 : ((bs x.name).toList == []) = decide (x.name = []) := emptyT _
  have e2 : ((n : Int) != 1) = !decide (n = 1) := by rw [bne]; exact congrArg _ (natB n 1)
  obtain ⟨g, off, hka, hF'⟩ := foAt_addr hF
  have hbx : Below w.heap.size w (w.alloc (.cells #[.int .i64 x.kind, .string (bs x.name), .slice ka n c, .int .i64 x.pl] 37)) := (Below.refl _ _).alloc (Nat.le_refl _) _
  have HB : Hid (Below w.heap.size w (w.alloc (.cells #[.int .i64 x.kind, .string (bs x.name), .slice ka n c, .int .i64 x.pl] 37)) ∧ (w.alloc (.cells #[.int .i64 x.kind, .string (bs x.name), .slice ka n c, .int .i64 x.pl] 37)).heap[w.heap.size]? = some (.cells #[.int .i64 x.kind, .string (bs x.name), .slice ka n c, .int .i64 x.pl] 37 (0, 0))) := ⟨hbx, heap_alloc_new w _⟩
  clear hk
  have HN : Hid (∀ W, Calls Tryd.prog 50 #[.string (bs x.name)] W fun e w' => e = .returned (.bool (nameB x.name)) ∧ Below W.heap.size W w') := fun W => by
    have := refName_calls (bs x.name) W
    rw [bs_list] at this
    exact this
  clear e1
  cases hv : nameB x.name with
  | false =>
    rw [hv] at HN
    clear hv hF hF' hbx hka e2 hn
    go_enter Tryd.func34, Tryd.ntmps34
    go_wp2_with fail
    refine (HN.out _).mono ?_
    rintro e' w2 ⟨rfl, hb2⟩
    have hk3 : w2.heap[w.heap.size]? = some (.cells #[.int .i64 x.kind, .string (bs x.name), .slice ka n c, .int .i64 x.pl] 37 (0, 0)) := by rw [hb2.block _ (lt_block HB.out.2)]; exact HB.out.2
    have z0 := blk (i := 0) hk3 rfl
    have HB2 : Hid (Below w.heap.size w w2) := HB.out.1.trans (hb2.mono HB.out.1.size)
    clear hb2 HB HN hk3
    go_wp2
    go_ret
    exact ⟨ret_bool (by simp), HB2.out⟩
  | true =>
    rw [hv] at HN
    clear hv
    by_cases hm : n = 1
    case neg =>
      have q : ((n : Int) != 1) = true := by rw [e2]; simp [hm]
      rw [decide_eq_false hm]
      clear hF hF' hbx hka e2 hn
      go_enter Tryd.func34, Tryd.ntmps34
      go_wp2_with fail
      refine (HN.out _).mono ?_
      rintro e' w2 ⟨rfl, hb2⟩
      have hk3 : w2.heap[w.heap.size]? = some (.cells #[.int .i64 x.kind, .string (bs x.name), .slice ka n c, .int .i64 x.pl] 37 (0, 0)) := by rw [hb2.block _ (lt_block HB.out.2)]; exact HB.out.2
      have z0 := blk (i := 0) hk3 rfl
      have z2 := blk (i := 2) hk3 rfl
      have HB2 : Hid (Below w.heap.size w w2) := HB.out.1.trans (hb2.mono HB.out.1.size)
      clear hb2 HB HN hk3
      go_wp2
      go_ret
      exact ⟨ret_bool (by simp), HB2.out⟩
    have q : ((n : Int) != 1) = false := by rw [e2]; simp [hm]
    rw [decide_eq_true hm, Bool.true_and, Bool.true_and]
    generalize hD : rgtF 32 x.args = D
    have HF1 : Hid (FoAt o S (w.alloc (.cells #[.int .i64 x.kind, .string (bs x.name), .slice ka n c, .int .i64 x.pl] 37)) x.args (some ⟨g, off + 0 * 5, none⟩) (n - 0) ∧ rgtF 32 x.args = D ∧ Below w.heap.size w (w.alloc (.cells #[.int .i64 x.kind, .string (bs x.name), .slice ka n c, .int .i64 x.pl] 37)) ∧ (w.alloc (.cells #[.int .i64 x.kind, .string (bs x.name), .slice ka n c, .int .i64 x.pl] 37)).heap[w.heap.size]? = some (.cells #[.int .i64 x.kind, .string (bs x.name), .slice ka n c, .int .i64 x.pl] 37 (0, 0))) := ⟨hF'.below hbx, hD, HB.out⟩
    clear hF hF' hbx hD HB hm e2 hn
    go_enter Tryd.func34, Tryd.ntmps34
    go_wp2_with fail
    refine (HN.out _).mono ?_
    rintro e' w2 ⟨rfl, hb2⟩
    have HF2 : Hid (FoAt o S w2 x.args (some ⟨g, off + 0 * 5, none⟩) (n - 0) ∧ rgtF 32 x.args = D ∧ Below w.heap.size w w2 ∧ w2.heap[w.heap.size]? = some (.cells #[.int .i64 x.kind, .string (bs x.name), .slice ka n c, .int .i64 x.pl] 37 (0, 0))) := by
      obtain ⟨a1, a3, a4, a5⟩ := HF1.out
      exact ⟨a1.below hb2, a3, a4.trans (hb2.mono a4.size), by rw [hb2.block _ (lt_block a5)]; exact a5⟩
    have z0 := blk (i := 0) HF2.out.2.2.2 rfl
    have z2 := blk (i := 2) HF2.out.2.2.2 rfl
    clear hb2 HF1 HN
    go_wp2_with fail
    clear z0 z2
    go_loopg [5] n (fun k iv wr => ∃ (F' : Fo) (i : Nat), iv = .int .i64 (i : Int) ∧ i + k = n ∧ Hid (FoAt o S wr F' (some ⟨g, off + i * 5, none⟩) (n - i) ∧ rgtF 32 F' = D ∧ Below w.heap.size w wr ∧ wr.heap[w.heap.size]? = some (.cells #[.int .i64 x.kind, .string (bs x.name), .slice ka n c, .int .i64 x.pl] 37 (0, 0))))
    case atStart => exact ⟨x.args, 0, rfl, by omega, HF2.out⟩
    case round =>
      clear HF2
      obtain ⟨F', i, rfl, hik, HT⟩ := hrel
      obtain ⟨v1, v3, v4, v5⟩ := HT.out
      have bk := blk (i := 2) v5 rfl
      by_cases hi : i < n
      · have hdi : decide ((i : Int) < (n : Int)) = true := by simp; omega
        obtain ⟨b1, o1, h1, k1, r1, ka1, kc1, kk1, rfl, -, hok1, hkc1, ⟨c0, c1, c2, c3, c4⟩, hk1, hr1⟩ := foAt_head v1 hi
        have hka2 := hka (by omega)
        subst hka2
        have HR : Hid (FoAt o S wr r1 (some ⟨g, off + (i + 1) * 5, none⟩) (n - (i + 1)) ∧ (rgtE 1 (h1, k1) && rgtF 32 r1) = D ∧ Below w.heap.size w wr ∧ wr.heap[w.heap.size]? = some (.cells #[.int .i64 x.kind, .string (bs x.name), .slice (some ⟨g, off, none⟩) n c, .int .i64 x.pl] 37 (0, 0))) := by
          have h9 := rgtF_cons (d := 0) (by omega) b1 o1 h1 k1 r1
          simp only [Nat.sub_zero, Nat.zero_add] at h9
          rw [h9] at v3
          exact ⟨hr1, v3, v4, v5⟩
        have HKx : Hid (Calls Tryd.prog 51 #[.agg #[.int .i64 h1.kind, .int .i64 h1.num, .string (bs h1.text), .slice ka1 kc1 kk1, .int .i64 h1.pl], .int .i64 1] wr fun e' w' => e' = .returned (.bool (rgtE 1 (h1, k1))) ∧ Below wr.heap.size wr w') :=
          rightE_calls _ (h1, k1) ka1 kc1 kk1 1 wr o S ⟨hok1, hkc1, hk1⟩ (Nat.lt_succ_self _)
        clear HT hk1 hr1 hok1 hkc1 v1 v3 v4 v5
        cases hk : rgtE 1 (h1, k1) with
        | true =>
          rw [hk] at HKx HR
          clear hk
          go_wp2_with fail
          refine HKx.out.mono ?_
          rintro e' w3 ⟨rfl, hb3⟩
          have HN : Hid (FoAt o S w3 r1 (some ⟨g, off + (i + 1) * 5, none⟩) (n - (i + 1)) ∧ rgtF 32 r1 = D ∧ Below w.heap.size w w3 ∧ w3.heap[w.heap.size]? = some (.cells #[.int .i64 x.kind, .string (bs x.name), .slice (some ⟨g, off, none⟩) n c, .int .i64 x.pl] 37 (0, 0))) := by
            obtain ⟨a1, a3, a4, a5⟩ := HR.out
            exact ⟨a1.below hb3, by simpa using a3, a4.trans (hb3.mono a4.size), by rw [hb3.block _ (lt_block a5)]; exact a5⟩
          clear hb3 HR HKx bk c0 c1 c2 c3 c4
          go_wp2_with fail
          go_roundg (gk - 1)
          case measure => omega
          case rel => exact ⟨r1, i + 1, by go_num, by omega, HN.out⟩
        | false =>
          rw [hk] at HKx HR
          clear hk
          go_wp2_with fail
          refine HKx.out.mono ?_
          rintro e' w3 ⟨rfl, hb3⟩
          have HN : Hid (D = false ∧ Below w.heap.size w w3) := by
            obtain ⟨_, a3, a4, _⟩ := HR.out
            exact ⟨by simpa using a3.symm, a4.trans (hb3.mono a4.size)⟩
          clear hb3 HR HKx bk c0 c1 c2 c3 c4
          go_wp2
          go_ret
          exact ⟨ret_bool HN.out.1.symm, HN.out.2⟩
      · have hdi : decide ((i : Int) < (n : Int)) = false := by simp; omega
        have HX : Hid (D = true ∧ Below w.heap.size w wr) := by
          rw [show n - i = 0 by omega] at v1
          rw [foAt_end v1] at v3
          exact ⟨v3.symm.trans rfl, v4⟩
        clear HT v1 v3 v4 v5
        go_wp2
        go_ret
        exact ⟨ret_bool HX.out.1.symm, HX.out.2⟩

set_option maxRecDepth 20000 in
set_option maxHeartbeats 8000000 in
theorem rI_7 {o : Bool} {S : Nat → Prop} (x : It) (ka : Option Addr) (n c : Nat) (w : World) (hF : FoAt o S w x.args ka n) (hn : n ≤ maxLen) (hk : x.kind = 7) :
    Calls Tryd.prog 34 #[.agg #[.int .i64 x.kind, .string (bs x.name), .slice ka n c, .int .i64 x.pl]] w fun e' w' => e' = .returned (.bool (isWayB x.name && (decide (n = 0) && rgtF 32 x.args))) ∧ Below w.heap.size w w' := by
  have hn2 := hn
  unfold maxLen at hn2
  have k1 : (x.kind == 1) = false := by rw [beq_eq_false_iff_ne]; omega
  have k7 : (x.kind == 7) = true := by rw [beq_iff_eq]; omega
  have kl : decide (x.kind < (1 : Int)) = false := by simp; omega
  have kg : decide ((10 : Int) < x.kind) = false := by simp; omega
  have e1 : ((bs x.name).toList == []) = decide (x.name = []) := emptyT _
  have e2 : ((n : Int) != 0) = !decide (n = 0) := by rw [bne]; exact congrArg _ (natB n 0)
  obtain ⟨g, off, hka, hF'⟩ := foAt_addr hF
  have hbx : Below w.heap.size w (w.alloc (.cells #[.int .i64 x.kind, .string (bs x.name), .slice ka n c, .int .i64 x.pl] 37)) := (Below.refl _ _).alloc (Nat.le_refl _) _
  have HB : Hid (Below w.heap.size w (w.alloc (.cells #[.int .i64 x.kind, .string (bs x.name), .slice ka n c, .int .i64 x.pl] 37)) ∧ (w.alloc (.cells #[.int .i64 x.kind, .string (bs x.name), .slice ka n c, .int .i64 x.pl] 37)).heap[w.heap.size]? = some (.cells #[.int .i64 x.kind, .string (bs x.name), .slice ka n c, .int .i64 x.pl] 37 (0, 0))) := ⟨hbx, heap_alloc_new w _⟩
  clear hk e1
  have hw : isWayB x.name = (((bs x.name).toList == [103, 108, 111, 98, 97, 108]) || (((bs x.name).toList == [102, 105, 116]) || (((bs x.name).toList == [108, 111, 99, 97, 108]) || ((bs x.name).toList == [101, 120, 116, 101, 110, 100])))) := by
    unfold isWayB
    rw [bs_toList, Bool.eq_iff_iff]
    simp [or_assoc]
  have hz : n = 0 → x.args = .nil := fun h0 => by
    rw [h0] at hF
    exact foAt_end hF
  have hq : (((bs x.name).toList == [103, 108, 111, 98, 97, 108]) = false ∧ ((bs x.name).toList == [102, 105, 116]) = false ∧ ((bs x.name).toList == [108, 111, 99, 97, 108]) = false ∧ ((bs x.name).toList == [101, 120, 116, 101, 110, 100]) = false ∧ isWayB x.name = false) ∨
      ((((bs x.name).toList == [103, 108, 111, 98, 97, 108]) = true ∨ (((bs x.name).toList == [103, 108, 111, 98, 97, 108]) = false ∧ ((bs x.name).toList == [102, 105, 116]) = true) ∨ (((bs x.name).toList == [103, 108, 111, 98, 97, 108]) = false ∧ ((bs x.name).toList == [102, 105, 116]) = false ∧ ((bs x.name).toList == [108, 111, 99, 97, 108]) = true) ∨ (((bs x.name).toList == [103, 108, 111, 98, 97, 108]) = false ∧ ((bs x.name).toList == [102, 105, 116]) = false ∧ ((bs x.name).toList == [108, 111, 99, 97, 108]) = false ∧ ((bs x.name).toList == [101, 120, 116, 101, 110, 100]) = true)) ∧ isWayB x.name = true) := by
    rw [hw]
    cases ((bs x.name).toList == [103, 108, 111, 98, 97, 108]) <;> cases ((bs x.name).toList == [102, 105, 116]) <;> cases ((bs x.name).toList == [108, 111, 99, 97, 108]) <;> cases ((bs x.name).toList == [101, 120, 116, 101, 110, 100]) <;> decide
  clear hw
  rcases hq with ⟨q1, q2, q3, q4, hv⟩ | ⟨hq, hv⟩
  · rw [hv]
    clear hv hF hF' hbx hka e2 hn hz
    go_enter Tryd.func34, Tryd.ntmps34
    go_wp2
    go_ret
    exact ⟨ret_bool (by simp), HB.out.1⟩
  rw [hv]
  by_cases hm : n = 0
  case neg =>
    have q : ((n : Int) != 0) = true := by rw [e2]; simp [hm]
    rw [decide_eq_false hm]
    clear hv hF hF' hbx hka e2 hn hz
    rcases hq with q1 | ⟨q1, q2⟩ | ⟨q1, q2, q3⟩ | ⟨q1, q2, q3, q4⟩ <;> (
      go_enter Tryd.func34, Tryd.ntmps34
      go_wp2
      go_ret
      exact ⟨ret_bool (by simp), HB.out.1⟩)
  have hnil := hz hm
  subst hm
  rw [hnil]
  clear hv hF hF' hbx hka e2 hn hz hnil
  rcases hq with q1 | ⟨q1, q2⟩ | ⟨q1, q2, q3⟩ | ⟨q1, q2, q3, q4⟩ <;> (
    go_enter Tryd.func34, Tryd.ntmps34
    go_wp2_with fail
    go_loopg [5] 0 (fun k iv wr => iv = .int .i64 0 ∧ Hid (Below w.heap.size w wr ∧ wr.heap[w.heap.size]? = some (.cells #[.int .i64 x.kind, .string (bs x.name), .slice ka 0 c, .int .i64 x.pl] 37 (0, 0))))
    case atStart => exact ⟨rfl, HB.out⟩
    case round =>
      clear HB
      obtain ⟨rfl, HT⟩ := hrel
      have bk := blk (i := 2) HT.out.2 rfl
      go_wp2
      go_ret
      exact ⟨rfl, HT.out.1⟩)
end Go.Proofs.YtpeldiibjhffiaaDoor
