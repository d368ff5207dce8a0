/-
  The document's rightItem and Right.
-/
import Derived.Test.YtpeldiibjhffiaaDoorG28
namespace Go.Proofs.YtpeldiibjhffiaaDoor
open Go.RowKit Go.Deep

set_option maxRecDepth 20000 in
set_option maxHeartbeats 8000000 in
theorem rI_none (x : It) (ka : Option Addr) (n c : Nat) (w : World) (hk : ¬ (1 ≤ x.kind ∧ x.kind ≤ 10)) :
    Calls Tryd.prog 34 #[.agg #[.int .i64 x.kind, .string (bs x.name), .slice ka n c, .int .i64 x.pl]] w fun e' w' => e' = .returned (.bool false) ∧ Below w.heap.size w w' := by
  have k1 : (x.kind == 1) = false := by rw [beq_eq_false_iff_ne]; omega
  have k7 : (x.kind == 7) = false := by rw [beq_eq_false_iff_ne]; omega
  have k5 : (x.kind == 5) = false := by rw [beq_eq_false_iff_ne]; omega
  have k6 : (x.kind == 6) = false := by rw [beq_eq_false_iff_ne]; omega
  have k8 : (x.kind == 8) = false := by rw [beq_eq_false_iff_ne]; omega
  have k9 : (x.kind == 9) = false := by rw [beq_eq_false_iff_ne]; omega
  have hq : decide (x.kind < (1 : Int)) = true ∨ (decide (x.kind < (1 : Int)) = false ∧ decide ((10 : Int) < x.kind) = true) := by
    by_cases h : x.kind < 1
    · exact .inl (by simpa using h)
    · exact .inr ⟨by simpa using h, by simp; omega⟩
  have HB : Hid (Below w.heap.size w (w.alloc (.cells #[.int .i64 x.kind, .string (bs x.name), .slice ka n c, .int .i64 x.pl] 37))) := (Below.refl _ _).alloc (Nat.le_refl _) _
  clear hk
  rcases hq with h1 | ⟨h1, h2⟩ <;> (
    go_enter Tryd.func34, Tryd.ntmps34
    go_wp2
    go_ret
    exact ⟨rfl, HB.out⟩)
theorem rightItemR_calls {o : Bool} {S : Nat → Prop} (x : It) (ka : Option Addr) (n c : Nat) (w : World) (hF : FoAt o S w x.args ka n) (hn : n ≤ maxLen) :
    Calls Tryd.prog 34 #[.agg #[.int .i64 x.kind, .string (bs x.name), .slice ka n c, .int .i64 x.pl]] w fun e' w' => e' = .returned (.bool (itRight x)) ∧ Below w.heap.size w w' := by
  have hl := foAt_len hF
  unfold itRight
  rw [← hl]
  by_cases h1 : x.kind = 1
  · rw [if_pos h1]; exact rI_1 x ka n c w hF hn h1
  rw [if_neg h1]
  by_cases h7 : x.kind = 7
  · rw [if_pos h7]
    have := rI_7 x ka n c w hF hn h7
    have hz : (isWayB x.name && (decide (n = 0) && rgtF 32 x.args)) = (isWayB x.name && decide (n = 0)) := by
      by_cases h0 : n = 0
      · have : x.args = .nil := foAt_end (by rw [h0] at hF; exact hF)
        rw [this]; simp [rgtF]
      · simp [h0]
    rw [hz] at this
    exact this
  rw [if_neg h7]
  by_cases h2 : x.kind = 2
  · rw [if_pos (by omega)]; exact rI_2 x ka n c w hF hn h2
  by_cases h3 : x.kind = 3
  · rw [if_pos (by omega)]; exact rI_3 x ka n c w hF hn h3
  by_cases h4 : x.kind = 4
  · rw [if_pos (by omega)]; exact rI_4 x ka n c w hF hn h4
  by_cases h10 : x.kind = 10
  · rw [if_pos (by omega)]; exact rI_10 x ka n c w hF hn h10
  rw [if_neg (by omega)]
  by_cases h5 : x.kind = 5
  · rw [if_pos (by omega)]; exact rI_5 x ka n c w hF hn h5
  by_cases h6 : x.kind = 6
  · rw [if_pos (by omega)]; exact rI_6 x ka n c w hF hn h6
  by_cases h8 : x.kind = 8
  · rw [if_pos (by omega)]; exact rI_8 x ka n c w hF hn h8
  by_cases h9 : x.kind = 9
  · rw [if_pos (by omega)]; exact rI_9 x ka n c w hF hn h9
  rw [if_neg (by omega)]
  exact rI_none x ka n c w (by omega)
set_option maxRecDepth 20000 in
set_option maxHeartbeats 8000000 in
theorem rightR_calls {o : Bool} {S : Nat → Prop} (L : List It) (ao : Option Addr) (n c : Nat) (w : World) (hL : ItsAt o S w L ao n) (hn : n ≤ maxLen) :
    Calls Tryd.prog 20 #[.agg #[.slice ao n c]] w fun e' w' => e' = .returned (.bool (treeRight L)) ∧ Below w.heap.size w w' := by
  have hn2 := hn
  unfold maxLen at hn2
  have hl := itsAt_len hL
  have hbx : Below w.heap.size w (w.alloc (.cells #[.slice ao n c] 24)) := (Below.refl _ _).alloc (Nat.le_refl _) _
  by_cases h100 : n ≤ 100
  case neg =>
    have q : decide ((100 : Int) < (n : Int)) = true := by simp; omega
    have HX : Hid (treeRight L = false) := by
      show treeRight L = false
      unfold treeRight
      rw [← hl, decide_eq_false h100, Bool.false_and]
    have HB : Hid (Below w.heap.size w (w.alloc (.cells #[.slice ao n c] 24))) := hbx
    clear hL hn hl hbx h100
    go_enter Tryd.func20, Tryd.ntmps20
    go_wp2
    go_ret
    exact ⟨ret_bool HX.out.symm, HB.out⟩
  have q : decide ((100 : Int) < (n : Int)) = false := by simp; omega
  have hR : treeRight L = L.all itRight := by
    unfold treeRight
    rw [← hl, decide_eq_true h100, Bool.true_and]
  rw [hR]
  obtain ⟨g, off, hka, hF'⟩ := itsAt_addr hL
  generalize hD : L.all itRight = D
  have HF2 : Hid (ItsAt o S (w.alloc (.cells #[.slice ao n c] 24)) L (some ⟨g, off + 0 * 4, none⟩) (n - 0) ∧ L.all itRight = D ∧ Below w.heap.size w (w.alloc (.cells #[.slice ao n c] 24)) ∧ (w.alloc (.cells #[.slice ao n c] 24)).heap[w.heap.size]? = some (.cells #[.slice ao n c] 24 (0, 0))) := ⟨hF'.below hbx, hD, hbx, heap_alloc_new w _⟩
  clear hL hF' hbx hD hR hl hn
  go_enter Tryd.func20, Tryd.ntmps20
  go_wp2_with fail
  go_loopg [3] n (fun k iv wr => ∃ (M : List It) (i : Nat), iv = .int .i64 (i : Int) ∧ i + k = n ∧ Hid (ItsAt o S wr M (some ⟨g, off + i * 4, none⟩) (n - i) ∧ M.all itRight = D ∧ Below w.heap.size w wr ∧ wr.heap[w.heap.size]? = some (.cells #[.slice ao n c] 24 (0, 0))))
  case atStart => exact ⟨L, 0, rfl, by omega, HF2.out⟩
  case round =>
    clear HF2
    obtain ⟨M, i, rfl, hik, HT⟩ := hrel
    obtain ⟨v1, v3, v4, v5⟩ := HT.out
    have bk := blk (i := 0) v5 rfl
    by_cases hi : i < n
    · have hdi : decide ((i : Int) < (n : Int)) = true := by simp; omega
      obtain ⟨h1, r1, ka1, kc1, kk1, rfl, -, hok1, hkc1, ⟨c0, c1, c2, c3⟩, hk1, hr1⟩ := itsAt_head v1 hi
      have hka2 := hka (by omega)
      subst hka2
      have HR : Hid (ItsAt o S wr r1 (some ⟨g, off + (i + 1) * 4, none⟩) (n - (i + 1)) ∧ (itRight h1 && r1.all itRight) = D ∧ Below w.heap.size w wr ∧ wr.heap[w.heap.size]? = some (.cells #[.slice (some ⟨g, off, none⟩) n c] 24 (0, 0))) := ⟨hr1, v3, v4, v5⟩
      have HKx : Hid (Calls Tryd.prog 34 #[.agg #[.int .i64 h1.kind, .string (bs h1.name), .slice ka1 kc1 kk1, .int .i64 h1.pl]] wr fun e' w' => e' = .returned (.bool (itRight h1)) ∧ Below wr.heap.size wr w') := rightItemR_calls h1 ka1 kc1 kk1 wr hk1 hkc1
      clear HT hk1 hr1 hok1 hkc1 v1 v3 v4 v5
      cases hk : itRight h1 with
      | true =>
        rw [hk] at HKx HR
        clear hk
        go_wp2_with fail
        refine HKx.out.mono ?_
        rintro e' w3 ⟨rfl, hb3⟩
        have HN : Hid (ItsAt o S w3 r1 (some ⟨g, off + (i + 1) * 4, none⟩) (n - (i + 1)) ∧ r1.all itRight = D ∧ Below w.heap.size w w3 ∧ w3.heap[w.heap.size]? = some (.cells #[.slice (some ⟨g, off, none⟩) n c] 24 (0, 0))) := by
          obtain ⟨a1, a3, a4, a5⟩ := HR.out
          exact ⟨a1.below hb3, by simpa using a3, a4.trans (hb3.mono a4.size), by rw [hb3.block _ (lt_block a5)]; exact a5⟩
        clear hb3 HR HKx bk c0 c1 c2 c3
        go_wp2_with fail
        go_roundg (gk - 1)
        case measure => omega
        case rel => exact ⟨r1, i + 1, by go_num, by omega, HN.out⟩
      | false =>
        rw [hk] at HKx HR
        clear hk
        go_wp2_with fail
        refine HKx.out.mono ?_
        rintro e' w3 ⟨rfl, hb3⟩
        have HN : Hid (D = false ∧ Below w.heap.size w w3) := by
          obtain ⟨_, a3, a4, _⟩ := HR.out
          exact ⟨by simpa using a3.symm, a4.trans (hb3.mono a4.size)⟩
        clear hb3 HR HKx bk c0 c1 c2 c3
        go_wp2
        go_ret
        exact ⟨ret_bool HN.out.1.symm, HN.out.2⟩
    · have hdi : decide ((i : Int) < (n : Int)) = false := by simp; omega
      have HX : Hid (D = true ∧ Below w.heap.size w wr) := by
        rw [show n - i = 0 by omega] at v1
        rw [itsAt_end v1] at v3
        exact ⟨v3.symm.trans rfl, v4⟩
      clear HT v1 v3 v4 v5
      go_wp2
      go_ret
      exact ⟨ret_bool HX.out.1.symm, HX.out.2⟩
end Go.Proofs.YtpeldiibjhffiaaDoor
