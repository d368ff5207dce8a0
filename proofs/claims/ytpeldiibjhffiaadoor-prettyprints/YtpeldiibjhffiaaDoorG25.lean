/-
  The document's RightExpr, by kinds (1, 4). The document's RightExpr, by kinds (5, 6, 7). The document's RightExpr, by kinds (8, 9).
-/
import Derived.Test.YtpeldiibjhffiaaDoorG24
namespace Go.Proofs.YtpeldiibjhffiaaDoor
open Go.RowKit Go.Deep

set_option maxRecDepth 20000 in
set_option maxHeartbeats 8000000 in
theorem rE_1 {o : Bool} {S : Nat → Prop} (N d : Nat) (hd : d ≤ 32) (IH0 : ∀ (e : Ex) (ka : Option Addr) (kn kc : Nat) (w : World), ExAt o S w e ka kn → szF e.2 < N → Calls Tryd.prog 51 #[.agg #[.int .i64 e.1.kind, .int .i64 e.1.num, .string (bs e.1.text), .slice ka kn kc, .int .i64 e.1.pl], .int .i64 ((d : Int) + 1)] w fun e' w' => e' = .returned (.bool (rgtE (d + 1) e)) ∧ Below w.heap.size w w')
    (h : Hd) (F : Fo) (ka : Option Addr) (n c : Nat) (w : World) (hE : ExAt o S w (h, F) ka n) (hN : szF F ≤ N) (hk : h.kind = 1) :
    Calls Tryd.prog 51 #[.agg #[.int .i64 h.kind, .int .i64 h.num, .string (bs h.text), .slice ka n c, .int .i64 h.pl], .int .i64 (d : Int)] w fun e' w' => e' = .returned (.bool (hdRight h n && rgtF (32 - d) F)) ∧ Below w.heap.size w w' := by
  have IH : Hid (∀ (e : Ex) (ka : Option Addr) (kn kc : Nat) (w : World), ExAt o S w e ka kn → szF e.2 < N → Calls Tryd.prog 51 #[.agg #[.int .i64 e.1.kind, .int .i64 e.1.num, .string (bs e.1.text), .slice ka kn kc, .int .i64 e.1.pl], .int .i64 ((d : Int) + 1)] w fun e' w' => e' = .returned (.bool (rgtE (d + 1) e)) ∧ Below w.heap.size w w') := IH0
  have hR : hdRight h n = (!decide (h.num < 0) && (!decide ((72057594037927936 : Int) < h.num) && (((bs h.text).toList == []) && (!decide ((n : Int) < 0) && !decide ((0 : Int) < (n : Int)))))) := by
    have e1 : ((bs h.text).toList == []) = decide (h.text = []) := emptyT _
    rw [e1, Bool.eq_iff_iff]
    unfold hdRight
    rw [hk]
    simp <;> omega
  have hn2 := hE.few
  unfold maxLen at hn2
  have hdd : decide ((32 : Int) < (d : Int)) = false := by simp; omega
  have k1 : (h.kind == 1) = true := by rw [beq_iff_eq]; omega
  have kn1 : (h.kind != 1) = false := by simp [hk]
  have kg3 : decide ((3 : Int) < h.kind) = false := by simp [hk]
  obtain ⟨g, off, hka, hF'⟩ := foAt_addr hE.kids
  have hbx : Below w.heap.size w (w.alloc (.cells #[.int .i64 h.kind, .int .i64 h.num, .string (bs h.text), .slice ka n c, .int .i64 h.pl] 40)) := (Below.refl _ _).alloc (Nat.le_refl _) _
  have HB : Hid (Below w.heap.size w (w.alloc (.cells #[.int .i64 h.kind, .int .i64 h.num, .string (bs h.text), .slice ka n c, .int .i64 h.pl] 40)) ∧ (w.alloc (.cells #[.int .i64 h.kind, .int .i64 h.num, .string (bs h.text), .slice ka n c, .int .i64 h.pl] 40)).heap[w.heap.size]? = some (.cells #[.int .i64 h.kind, .int .i64 h.num, .string (bs h.text), .slice ka n c, .int .i64 h.pl] 40 (0, 0))) := ⟨hbx, heap_alloc_new w _⟩
  clear hk IH0
  cases hX : hdRight h n with
  | false =>
    rw [hX] at hR
    have hw : (decide (h.num < 0) = true ∨ (decide (h.num < 0) = false ∧ (decide ((72057594037927936 : Int) < h.num) = true ∨ (decide ((72057594037927936 : Int) < h.num) = false ∧ (((bs h.text).toList == []) = false ∨ (((bs h.text).toList == []) = true ∧ (decide ((n : Int) < 0) = true ∨ (decide ((n : Int) < 0) = false ∧ decide ((0 : Int) < (n : Int)) = true)))))))) := by
      revert hR
      cases decide (h.num < 0) <;> cases decide ((72057594037927936 : Int) < h.num) <;> cases ((bs h.text).toList == []) <;> cases decide ((n : Int) < 0) <;> cases decide ((0 : Int) < (n : Int)) <;> simp
    clear hX hR IH hE hF' hbx hka
    rw [Bool.false_and]
    rcases hw with q0 | ⟨q0, q1 | ⟨q1, q2 | ⟨q2, q3 | ⟨q3, q4⟩⟩⟩⟩ <;> (
      try (have qz : 0 < n := by simp at q4; omega)
      go_enter Tryd.func51, Tryd.ntmps51
      go_wp2
      go_ret
      exact ⟨rfl, HB.out.1⟩)
  | true =>
    rw [hX] at hR
    have hw : decide (h.num < 0) = false ∧ decide ((72057594037927936 : Int) < h.num) = false ∧ ((bs h.text).toList == []) = true ∧ decide ((n : Int) < 0) = false ∧ decide ((0 : Int) < (n : Int)) = false := by
      revert hR
      cases decide (h.num < 0) <;> cases decide ((72057594037927936 : Int) < h.num) <;> cases ((bs h.text).toList == []) <;> cases decide ((n : Int) < 0) <;> cases decide ((0 : Int) < (n : Int)) <;> simp
    obtain ⟨q0, q1, q2, q3, q4⟩ := hw
    rw [Bool.true_and]
    generalize hD : rgtF (32 - d) F = D
    have HF2 : Hid (FoAt o S (w.alloc (.cells #[.int .i64 h.kind, .int .i64 h.num, .string (bs h.text), .slice ka n c, .int .i64 h.pl] 40)) F (some ⟨g, off + 0 * 5, none⟩) (n - 0) ∧ szF F ≤ N ∧ rgtF (32 - d) F = D ∧ Below w.heap.size w (w.alloc (.cells #[.int .i64 h.kind, .int .i64 h.num, .string (bs h.text), .slice ka n c, .int .i64 h.pl] 40)) ∧ (w.alloc (.cells #[.int .i64 h.kind, .int .i64 h.num, .string (bs h.text), .slice ka n c, .int .i64 h.pl] 40)).heap[w.heap.size]? = some (.cells #[.int .i64 h.kind, .int .i64 h.num, .string (bs h.text), .slice ka n c, .int .i64 h.pl] 40 (0, 0))) := ⟨hF'.below hbx, hN, hD, HB.out⟩
    clear hX hR hE hF' hbx hN hD HB
    have qz : ¬ 0 < n := by simp at q4; omega
    go_enter Tryd.func51, Tryd.ntmps51
    go_wp2_with fail
    go_loopg [9] n (fun k iv wr => ∃ (F' : Fo) (i : Nat), iv = .int .i64 (i : Int) ∧ i + k = n ∧ Hid (FoAt o S wr F' (some ⟨g, off + i * 5, none⟩) (n - i) ∧ szF F' ≤ N ∧ rgtF (32 - d) F' = D ∧ Below w.heap.size w wr ∧ wr.heap[w.heap.size]? = some (.cells #[.int .i64 h.kind, .int .i64 h.num, .string (bs h.text), .slice ka n c, .int .i64 h.pl] 40 (0, 0))))
    case atStart => exact ⟨F, 0, rfl, by omega, HF2.out⟩
    case round =>
      clear HF2
      obtain ⟨F', i, rfl, hik, HT⟩ := hrel
      obtain ⟨v1, v2, v3, v4, v5⟩ := HT.out
      have bk := blk (i := 3) v5 rfl
      by_cases hi : i < n
      · exact absurd (Nat.lt_of_le_of_lt (Nat.zero_le _) hi) qz
      · have hdi : decide ((i : Int) < (n : Int)) = false := by simp; omega
        have HX : Hid (D = true ∧ Below w.heap.size w wr) := by
          rw [show n - i = 0 by omega] at v1
          rw [foAt_end v1] at v3
          exact ⟨v3.symm.trans rfl, v4⟩
        clear HT v1 v2 v3 v4 v5
        go_wp2
        go_ret
        exact ⟨ret_bool HX.out.1.symm, HX.out.2⟩

set_option maxRecDepth 20000 in
set_option maxHeartbeats 8000000 in
theorem rE_4 {o : Bool} {S : Nat → Prop} (N d : Nat) (hd : d ≤ 32) (IH0 : ∀ (e : Ex) (ka : Option Addr) (kn kc : Nat) (w : World), ExAt o S w e ka kn → szF e.2 < N → Calls Tryd.prog 51 #[.agg #[.int .i64 e.1.kind, .int .i64 e.1.num, .string (bs e.1.text), .slice ka kn kc, .int .i64 e.1.pl], .int .i64 ((d : Int) + 1)] w fun e' w' => e' = .returned (.bool (rgtE (d + 1) e)) ∧ Below w.heap.size w w')
    (h : Hd) (F : Fo) (ka : Option Addr) (n c : Nat) (w : World) (hE : ExAt o S w (h, F) ka n) (hN : szF F ≤ N) (hk : h.kind = 4) :
    Calls Tryd.prog 51 #[.agg #[.int .i64 h.kind, .int .i64 h.num, .string (bs h.text), .slice ka n c, .int .i64 h.pl], .int .i64 (d : Int)] w fun e' w' => e' = .returned (.bool (hdRight h n && rgtF (32 - d) F)) ∧ Below w.heap.size w w' := by
  have IH : Hid (∀ (e : Ex) (ka : Option Addr) (kn kc : Nat) (w : World), ExAt o S w e ka kn → szF e.2 < N → Calls Tryd.prog 51 #[.agg #[.int .i64 e.1.kind, .int .i64 e.1.num, .string (bs e.1.text), .slice ka kn kc, .int .i64 e.1.pl], .int .i64 ((d : Int) + 1)] w fun e' w' => e' = .returned (.bool (rgtE (d + 1) e)) ∧ Below w.heap.size w w') := IH0
  have hR : hdRight h n = (!(h.num != 0) && (((bs h.text).toList == []) && (!decide ((n : Int) < 1) && !decide ((1 : Int) < (n : Int))))) := by
    have e1 : ((bs h.text).toList == []) = decide (h.text = []) := emptyT _
    rw [e1, Bool.eq_iff_iff]
    unfold hdRight
    rw [hk]
    simp <;> omega
  have hn2 := hE.few
  unfold maxLen at hn2
  have hdd : decide ((32 : Int) < (d : Int)) = false := by simp; omega
  have k1 : (h.kind == 1) = false := by rw [beq_eq_false_iff_ne]; omega
  have k2 : (h.kind == 2) = false := by rw [beq_eq_false_iff_ne]; omega
  have k3 : (h.kind == 3) = false := by rw [beq_eq_false_iff_ne]; omega
  have k4 : (h.kind == 4) = true := by rw [beq_iff_eq]; omega
  have kn1 : (h.kind != 1) = true := by simp [hk]
  have kg3 : decide ((3 : Int) < h.kind) = true := by simp [hk]
  obtain ⟨g, off, hka, hF'⟩ := foAt_addr hE.kids
  have hbx : Below w.heap.size w (w.alloc (.cells #[.int .i64 h.kind, .int .i64 h.num, .string (bs h.text), .slice ka n c, .int .i64 h.pl] 40)) := (Below.refl _ _).alloc (Nat.le_refl _) _
  have HB : Hid (Below w.heap.size w (w.alloc (.cells #[.int .i64 h.kind, .int .i64 h.num, .string (bs h.text), .slice ka n c, .int .i64 h.pl] 40)) ∧ (w.alloc (.cells #[.int .i64 h.kind, .int .i64 h.num, .string (bs h.text), .slice ka n c, .int .i64 h.pl] 40)).heap[w.heap.size]? = some (.cells #[.int .i64 h.kind, .int .i64 h.num, .string (bs h.text), .slice ka n c, .int .i64 h.pl] 40 (0, 0))) := ⟨hbx, heap_alloc_new w _⟩
  clear hk IH0
  cases hX : hdRight h n with
  | false =>
    rw [hX] at hR
    have hw : ((h.num != 0) = true ∨ ((h.num != 0) = false ∧ (((bs h.text).toList == []) = false ∨ (((bs h.text).toList == []) = true ∧ (decide ((n : Int) < 1) = true ∨ (decide ((n : Int) < 1) = false ∧ decide ((1 : Int) < (n : Int)) = true)))))) := by
      revert hR
      cases (h.num != 0) <;> cases ((bs h.text).toList == []) <;> cases decide ((n : Int) < 1) <;> cases decide ((1 : Int) < (n : Int)) <;> simp
    clear hX hR IH hE hF' hbx hka
    rw [Bool.false_and]
    rcases hw with q0 | ⟨q0, q1 | ⟨q1, q2 | ⟨q2, q3⟩⟩⟩ <;> (
      go_enter Tryd.func51, Tryd.ntmps51
      go_wp2
      go_ret
      exact ⟨rfl, HB.out.1⟩)
  | true =>
    rw [hX] at hR
    have hw : (h.num != 0) = false ∧ ((bs h.text).toList == []) = true ∧ decide ((n : Int) < 1) = false ∧ decide ((1 : Int) < (n : Int)) = false := by
      revert hR
      cases (h.num != 0) <;> cases ((bs h.text).toList == []) <;> cases decide ((n : Int) < 1) <;> cases decide ((1 : Int) < (n : Int)) <;> simp
    obtain ⟨q0, q1, q2, q3⟩ := hw
    rw [Bool.true_and]
    generalize hD : rgtF (32 - d) F = D
    have HF2 : Hid (FoAt o S (w.alloc (.cells #[.int .i64 h.kind, .int .i64 h.num, .string (bs h.text), .slice ka n c, .int .i64 h.pl] 40)) F (some ⟨g, off + 0 * 5, none⟩) (n - 0) ∧ szF F ≤ N ∧ rgtF (32 - d) F = D ∧ Below w.heap.size w (w.alloc (.cells #[.int .i64 h.kind, .int .i64 h.num, .string (bs h.text), .slice ka n c, .int .i64 h.pl] 40)) ∧ (w.alloc (.cells #[.int .i64 h.kind, .int .i64 h.num, .string (bs h.text), .slice ka n c, .int .i64 h.pl] 40)).heap[w.heap.size]? = some (.cells #[.int .i64 h.kind, .int .i64 h.num, .string (bs h.text), .slice ka n c, .int .i64 h.pl] 40 (0, 0))) := ⟨hF'.below hbx, hN, hD, HB.out⟩
    clear hX hR hE hF' hbx hN hD HB
    go_enter Tryd.func51, Tryd.ntmps51
    go_wp2_with fail
    go_loopg [9] n (fun k iv wr => ∃ (F' : Fo) (i : Nat), iv = .int .i64 (i : Int) ∧ i + k = n ∧ Hid (FoAt o S wr F' (some ⟨g, off + i * 5, none⟩) (n - i) ∧ szF F' ≤ N ∧ rgtF (32 - d) F' = D ∧ Below w.heap.size w wr ∧ wr.heap[w.heap.size]? = some (.cells #[.int .i64 h.kind, .int .i64 h.num, .string (bs h.text), .slice ka n c, .int .i64 h.pl] 40 (0, 0))))
    case atStart => exact ⟨F, 0, rfl, by omega, HF2.out⟩
    case round =>
      clear HF2
      obtain ⟨F', i, rfl, hik, HT⟩ := hrel
      obtain ⟨v1, v2, v3, v4, v5⟩ := HT.out
      have bk := blk (i := 3) v5 rfl
      by_cases hi : i < n
      · have hdi : decide ((i : Int) < (n : Int)) = true := by simp; omega
        obtain ⟨b1, o1, h1, k1, r1, ka1, kc1, kk1, rfl, -, hok1, hkc1, ⟨c0, c1, c2, c3, c4⟩, hk1, hr1⟩ := foAt_head v1 hi
        have hka2 := hka (by omega)
        subst hka2
        have HR : Hid (FoAt o S wr r1 (some ⟨g, off + (i + 1) * 5, none⟩) (n - (i + 1)) ∧ szF r1 ≤ N ∧ (rgtE (d + 1) (h1, k1) && rgtF (32 - d) r1) = D ∧ Below w.heap.size w wr ∧ wr.heap[w.heap.size]? = some (.cells #[.int .i64 h.kind, .int .i64 h.num, .string (bs h.text), .slice (some ⟨g, off, none⟩) n c, .int .i64 h.pl] 40 (0, 0))) := by
          simp only [szF] at v2
          rw [rgtF_cons hd] at v3
          exact ⟨hr1, by omega, v3, v4, v5⟩
        have HKx : Hid (Calls Tryd.prog 51 #[.agg #[.int .i64 h1.kind, .int .i64 h1.num, .string (bs h1.text), .slice ka1 kc1 kk1, .int .i64 h1.pl], .int .i64 ((d : Int) + 1)] wr fun e' w' => e' = .returned (.bool (rgtE (d + 1) (h1, k1))) ∧ Below wr.heap.size wr w') := by
          simp only [szF] at v2
          exact IH.out (h1, k1) ka1 kc1 kk1 wr ⟨hok1, hkc1, hk1⟩ (by show szF k1 < N; omega)
        clear HT hk1 hr1 hok1 hkc1 v1 v2 v3 v4 v5
        cases hk : rgtE (d + 1) (h1, k1) with
        | true =>
          rw [hk] at HKx HR
          clear hk
          go_wp2_with fail
          refine HKx.out.mono ?_
          rintro e' w3 ⟨rfl, hb3⟩
          have HN : Hid (FoAt o S w3 r1 (some ⟨g, off + (i + 1) * 5, none⟩) (n - (i + 1)) ∧ szF r1 ≤ N ∧ rgtF (32 - d) r1 = D ∧ Below w.heap.size w w3 ∧ w3.heap[w.heap.size]? = some (.cells #[.int .i64 h.kind, .int .i64 h.num, .string (bs h.text), .slice (some ⟨g, off, none⟩) n c, .int .i64 h.pl] 40 (0, 0))) := by
            obtain ⟨a1, a2, a3, a4, a5⟩ := HR.out
            exact ⟨a1.below hb3, a2, by simpa using a3, a4.trans (hb3.mono a4.size), by rw [hb3.block _ (lt_block a5)]; exact a5⟩
          clear hb3 HR HKx bk c0 c1 c2 c3 c4
          go_wp2_with fail
          go_roundg (gk - 1)
          case measure => omega
          case rel => exact ⟨r1, i + 1, by go_num, by omega, HN.out⟩
        | false =>
          rw [hk] at HKx HR
          clear hk
          go_wp2_with fail
          refine HKx.out.mono ?_
          rintro e' w3 ⟨rfl, hb3⟩
          have HN : Hid (D = false ∧ Below w.heap.size w w3) := by
            obtain ⟨_, _, a3, a4, _⟩ := HR.out
            exact ⟨by simpa using a3.symm, a4.trans (hb3.mono a4.size)⟩
          clear hb3 HR HKx bk c0 c1 c2 c3 c4
          go_wp2
          go_ret
          exact ⟨ret_bool HN.out.1.symm, HN.out.2⟩
      · have hdi : decide ((i : Int) < (n : Int)) = false := by simp; omega
        have HX : Hid (D = true ∧ Below w.heap.size w wr) := by
          rw [show n - i = 0 by omega] at v1
          rw [foAt_end v1] at v3
          exact ⟨v3.symm.trans rfl, v4⟩
        clear HT v1 v2 v3 v4 v5
        go_wp2
        go_ret
        exact ⟨ret_bool HX.out.1.symm, HX.out.2⟩

end Go.Proofs.YtpeldiibjhffiaaDoor
namespace Go.Proofs.YtpeldiibjhffiaaDoor
open Go.RowKit Go.Deep

set_option maxRecDepth 20000 in
set_option maxHeartbeats 8000000 in
theorem rE_5 {o : Bool} {S : Nat → Prop} (N d : Nat) (hd : d ≤ 32) (IH0 : ∀ (e : Ex) (ka : Option Addr) (kn kc : Nat) (w : World), ExAt o S w e ka kn → szF e.2 < N → Calls Tryd.prog 51 #[.agg #[.int .i64 e.1.kind, .int .i64 e.1.num, .string (bs e.1.text), .slice ka kn kc, .int .i64 e.1.pl], .int .i64 ((d : Int) + 1)] w fun e' w' => e' = .returned (.bool (rgtE (d + 1) e)) ∧ Below w.heap.size w w')
    (h : Hd) (F : Fo) (ka : Option Addr) (n c : Nat) (w : World) (hE : ExAt o S w (h, F) ka n) (hN : szF F ≤ N) (hk : h.kind = 5) :
    Calls Tryd.prog 51 #[.agg #[.int .i64 h.kind, .int .i64 h.num, .string (bs h.text), .slice ka n c, .int .i64 h.pl], .int .i64 (d : Int)] w fun e' w' => e' = .returned (.bool (hdRight h n && rgtF (32 - d) F)) ∧ Below w.heap.size w w' := by
  have IH : Hid (∀ (e : Ex) (ka : Option Addr) (kn kc : Nat) (w : World), ExAt o S w e ka kn → szF e.2 < N → Calls Tryd.prog 51 #[.agg #[.int .i64 e.1.kind, .int .i64 e.1.num, .string (bs e.1.text), .slice ka kn kc, .int .i64 e.1.pl], .int .i64 ((d : Int) + 1)] w fun e' w' => e' = .returned (.bool (rgtE (d + 1) e)) ∧ Below w.heap.size w w') := IH0
  have hR : hdRight h n = (!(h.num != 0) && (((bs h.text).toList == []) && (!decide ((n : Int) < 2) && !decide ((2 : Int) < (n : Int))))) := by
    have e1 : ((bs h.text).toList == []) = decide (h.text = []) := emptyT _
    rw [e1, Bool.eq_iff_iff]
    unfold hdRight
    rw [hk]
    simp <;> omega
  have hn2 := hE.few
  unfold maxLen at hn2
  have hdd : decide ((32 : Int) < (d : Int)) = false := by simp; omega
  have k1 : (h.kind == 1) = false := by rw [beq_eq_false_iff_ne]; omega
  have k2 : (h.kind == 2) = false := by rw [beq_eq_false_iff_ne]; omega
  have k3 : (h.kind == 3) = false := by rw [beq_eq_false_iff_ne]; omega
  have k4 : (h.kind == 4) = false := by rw [beq_eq_false_iff_ne]; omega
  have k5 : (h.kind == 5) = true := by rw [beq_iff_eq]; omega
  have kn1 : (h.kind != 1) = true := by simp [hk]
  have kg3 : decide ((3 : Int) < h.kind) = true := by simp [hk]
  obtain ⟨g, off, hka, hF'⟩ := foAt_addr hE.kids
  have hbx : Below w.heap.size w (w.alloc (.cells #[.int .i64 h.kind, .int .i64 h.num, .string (bs h.text), .slice ka n c, .int .i64 h.pl] 40)) := (Below.refl _ _).alloc (Nat.le_refl _) _
  have HB : Hid (Below w.heap.size w (w.alloc (.cells #[.int .i64 h.kind, .int .i64 h.num, .string (bs h.text), .slice ka n c, .int .i64 h.pl] 40)) ∧ (w.alloc (.cells #[.int .i64 h.kind, .int .i64 h.num, .string (bs h.text), .slice ka n c, .int .i64 h.pl] 40)).heap[w.heap.size]? = some (.cells #[.int .i64 h.kind, .int .i64 h.num, .string (bs h.text), .slice ka n c, .int .i64 h.pl] 40 (0, 0))) := ⟨hbx, heap_alloc_new w _⟩
  clear hk IH0
  cases hX : hdRight h n with
  | false =>
    rw [hX] at hR
    have hw : ((h.num != 0) = true ∨ ((h.num != 0) = false ∧ (((bs h.text).toList == []) = false ∨ (((bs h.text).toList == []) = true ∧ (decide ((n : Int) < 2) = true ∨ (decide ((n : Int) < 2) = false ∧ decide ((2 : Int) < (n : Int)) = true)))))) := by
      revert hR
      cases (h.num != 0) <;> cases ((bs h.text).toList == []) <;> cases decide ((n : Int) < 2) <;> cases decide ((2 : Int) < (n : Int)) <;> simp
    clear hX hR IH hE hF' hbx hka
    rw [Bool.false_and]
    rcases hw with q0 | ⟨q0, q1 | ⟨q1, q2 | ⟨q2, q3⟩⟩⟩ <;> (
      go_enter Tryd.func51, Tryd.ntmps51
      go_wp2
      go_ret
      exact ⟨rfl, HB.out.1⟩)
  | true =>
    rw [hX] at hR
    have hw : (h.num != 0) = false ∧ ((bs h.text).toList == []) = true ∧ decide ((n : Int) < 2) = false ∧ decide ((2 : Int) < (n : Int)) = false := by
      revert hR
      cases (h.num != 0) <;> cases ((bs h.text).toList == []) <;> cases decide ((n : Int) < 2) <;> cases decide ((2 : Int) < (n : Int)) <;> simp
    obtain ⟨q0, q1, q2, q3⟩ := hw
    rw [Bool.true_and]
    generalize hD : rgtF (32 - d) F = D
    have HF2 : Hid (FoAt o S (w.alloc (.cells #[.int .i64 h.kind, .int .i64 h.num, .string (bs h.text), .slice ka n c, .int .i64 h.pl] 40)) F (some ⟨g, off + 0 * 5, none⟩) (n - 0) ∧ szF F ≤ N ∧ rgtF (32 - d) F = D ∧ Below w.heap.size w (w.alloc (.cells #[.int .i64 h.kind, .int .i64 h.num, .string (bs h.text), .slice ka n c, .int .i64 h.pl] 40)) ∧ (w.alloc (.cells #[.int .i64 h.kind, .int .i64 h.num, .string (bs h.text), .slice ka n c, .int .i64 h.pl] 40)).heap[w.heap.size]? = some (.cells #[.int .i64 h.kind, .int .i64 h.num, .string (bs h.text), .slice ka n c, .int .i64 h.pl] 40 (0, 0))) := ⟨hF'.below hbx, hN, hD, HB.out⟩
    clear hX hR hE hF' hbx hN hD HB
    go_enter Tryd.func51, Tryd.ntmps51
    go_wp2_with fail
    go_loopg [9] n (fun k iv wr => ∃ (F' : Fo) (i : Nat), iv = .int .i64 (i : Int) ∧ i + k = n ∧ Hid (FoAt o S wr F' (some ⟨g, off + i * 5, none⟩) (n - i) ∧ szF F' ≤ N ∧ rgtF (32 - d) F' = D ∧ Below w.heap.size w wr ∧ wr.heap[w.heap.size]? = some (.cells #[.int .i64 h.kind, .int .i64 h.num, .string (bs h.text), .slice ka n c, .int .i64 h.pl] 40 (0, 0))))
    case atStart => exact ⟨F, 0, rfl, by omega, HF2.out⟩
    case round =>
      clear HF2
      obtain ⟨F', i, rfl, hik, HT⟩ := hrel
      obtain ⟨v1, v2, v3, v4, v5⟩ := HT.out
      have bk := blk (i := 3) v5 rfl
      by_cases hi : i < n
      · have hdi : decide ((i : Int) < (n : Int)) = true := by simp; omega
        obtain ⟨b1, o1, h1, k1, r1, ka1, kc1, kk1, rfl, -, hok1, hkc1, ⟨c0, c1, c2, c3, c4⟩, hk1, hr1⟩ := foAt_head v1 hi
        have hka2 := hka (by omega)
        subst hka2
        have HR : Hid (FoAt o S wr r1 (some ⟨g, off + (i + 1) * 5, none⟩) (n - (i + 1)) ∧ szF r1 ≤ N ∧ (rgtE (d + 1) (h1, k1) && rgtF (32 - d) r1) = D ∧ Below w.heap.size w wr ∧ wr.heap[w.heap.size]? = some (.cells #[.int .i64 h.kind, .int .i64 h.num, .string (bs h.text), .slice (some ⟨g, off, none⟩) n c, .int .i64 h.pl] 40 (0, 0))) := by
          simp only [szF] at v2
          rw [rgtF_cons hd] at v3
          exact ⟨hr1, by omega, v3, v4, v5⟩
        have HKx : Hid (Calls Tryd.prog 51 #[.agg #[.int .i64 h1.kind, .int .i64 h1.num, .string (bs h1.text), .slice ka1 kc1 kk1, .int .i64 h1.pl], .int .i64 ((d : Int) + 1)] wr fun e' w' => e' = .returned (.bool (rgtE (d + 1) (h1, k1))) ∧ Below wr.heap.size wr w') := by
          simp only [szF] at v2
          exact IH.out (h1, k1) ka1 kc1 kk1 wr ⟨hok1, hkc1, hk1⟩ (by show szF k1 < N; omega)
        clear HT hk1 hr1 hok1 hkc1 v1 v2 v3 v4 v5
        cases hk : rgtE (d + 1) (h1, k1) with
        | true =>
          rw [hk] at HKx HR
          clear hk
          go_wp2_with fail
          refine HKx.out.mono ?_
          rintro e' w3 ⟨rfl, hb3⟩
          have HN : Hid (FoAt o S w3 r1 (some ⟨g, off + (i + 1) * 5, none⟩) (n - (i + 1)) ∧ szF r1 ≤ N ∧ rgtF (32 - d) r1 = D ∧ Below w.heap.size w w3 ∧ w3.heap[w.heap.size]? = some (.cells #[.int .i64 h.kind, .int .i64 h.num, .string (bs h.text), .slice (some ⟨g, off, none⟩) n c, .int .i64 h.pl] 40 (0, 0))) := by
            obtain ⟨a1, a2, a3, a4, a5⟩ := HR.out
            exact ⟨a1.below hb3, a2, by simpa using a3, a4.trans (hb3.mono a4.size), by rw [hb3.block _ (lt_block a5)]; exact a5⟩
          clear hb3 HR HKx bk c0 c1 c2 c3 c4
          go_wp2_with fail
          go_roundg (gk - 1)
          case measure => omega
          case rel => exact ⟨r1, i + 1, by go_num, by omega, HN.out⟩
        | false =>
          rw [hk] at HKx HR
          clear hk
          go_wp2_with fail
          refine HKx.out.mono ?_
          rintro e' w3 ⟨rfl, hb3⟩
          have HN : Hid (D = false ∧ Below w.heap.size w w3) := by
            obtain ⟨_, _, a3, a4, _⟩ := HR.out
            exact ⟨by simpa using a3.symm, a4.trans (hb3.mono a4.size)⟩
          clear hb3 HR HKx bk c0 c1 c2 c3 c4
          go_wp2
          go_ret
          exact ⟨ret_bool HN.out.1.symm, HN.out.2⟩
      · have hdi : decide ((i : Int) < (n : Int)) = false := by simp; omega
        have HX : Hid (D = true ∧ Below w.heap.size w wr) := by
          rw [show n - i = 0 by omega] at v1
          rw [foAt_end v1] at v3
          exact ⟨v3.symm.trans rfl, v4⟩
        clear HT v1 v2 v3 v4 v5
        go_wp2
        go_ret
        exact ⟨ret_bool HX.out.1.symm, HX.out.2⟩

set_option maxRecDepth 20000 in
set_option maxHeartbeats 8000000 in
theorem rE_6 {o : Bool} {S : Nat → Prop} (N d : Nat) (hd : d ≤ 32) (IH0 : ∀ (e : Ex) (ka : Option Addr) (kn kc : Nat) (w : World), ExAt o S w e ka kn → szF e.2 < N → Calls Tryd.prog 51 #[.agg #[.int .i64 e.1.kind, .int .i64 e.1.num, .string (bs e.1.text), .slice ka kn kc, .int .i64 e.1.pl], .int .i64 ((d : Int) + 1)] w fun e' w' => e' = .returned (.bool (rgtE (d + 1) e)) ∧ Below w.heap.size w w')
    (h : Hd) (F : Fo) (ka : Option Addr) (n c : Nat) (w : World) (hE : ExAt o S w (h, F) ka n) (hN : szF F ≤ N) (hk : h.kind = 6) :
    Calls Tryd.prog 51 #[.agg #[.int .i64 h.kind, .int .i64 h.num, .string (bs h.text), .slice ka n c, .int .i64 h.pl], .int .i64 (d : Int)] w fun e' w' => e' = .returned (.bool (hdRight h n && rgtF (32 - d) F)) ∧ Below w.heap.size w w' := by
  have IH : Hid (∀ (e : Ex) (ka : Option Addr) (kn kc : Nat) (w : World), ExAt o S w e ka kn → szF e.2 < N → Calls Tryd.prog 51 #[.agg #[.int .i64 e.1.kind, .int .i64 e.1.num, .string (bs e.1.text), .slice ka kn kc, .int .i64 e.1.pl], .int .i64 ((d : Int) + 1)] w fun e' w' => e' = .returned (.bool (rgtE (d + 1) e)) ∧ Below w.heap.size w w') := IH0
  have hR : hdRight h n = (!(h.num != 0) && (((bs h.text).toList == []) && (!decide ((n : Int) < 2) && !decide ((2 : Int) < (n : Int))))) := by
    have e1 : ((bs h.text).toList == []) = decide (h.text = []) := emptyT _
    rw [e1, Bool.eq_iff_iff]
    unfold hdRight
    rw [hk]
    simp <;> omega
  have hn2 := hE.few
  unfold maxLen at hn2
  have hdd : decide ((32 : Int) < (d : Int)) = false := by simp; omega
  have k1 : (h.kind == 1) = false := by rw [beq_eq_false_iff_ne]; omega
  have k2 : (h.kind == 2) = false := by rw [beq_eq_false_iff_ne]; omega
  have k3 : (h.kind == 3) = false := by rw [beq_eq_false_iff_ne]; omega
  have k4 : (h.kind == 4) = false := by rw [beq_eq_false_iff_ne]; omega
  have k5 : (h.kind == 5) = false := by rw [beq_eq_false_iff_ne]; omega
  have k6 : (h.kind == 6) = true := by rw [beq_iff_eq]; omega
  have kn1 : (h.kind != 1) = true := by simp [hk]
  have kg3 : decide ((3 : Int) < h.kind) = true := by simp [hk]
  obtain ⟨g, off, hka, hF'⟩ := foAt_addr hE.kids
  have hbx : Below w.heap.size w (w.alloc (.cells #[.int .i64 h.kind, .int .i64 h.num, .string (bs h.text), .slice ka n c, .int .i64 h.pl] 40)) := (Below.refl _ _).alloc (Nat.le_refl _) _
  have HB : Hid (Below w.heap.size w (w.alloc (.cells #[.int .i64 h.kind, .int .i64 h.num, .string (bs h.text), .slice ka n c, .int .i64 h.pl] 40)) ∧ (w.alloc (.cells #[.int .i64 h.kind, .int .i64 h.num, .string (bs h.text), .slice ka n c, .int .i64 h.pl] 40)).heap[w.heap.size]? = some (.cells #[.int .i64 h.kind, .int .i64 h.num, .string (bs h.text), .slice ka n c, .int .i64 h.pl] 40 (0, 0))) := ⟨hbx, heap_alloc_new w _⟩
  clear hk IH0
  cases hX : hdRight h n with
  | false =>
    rw [hX] at hR
    have hw : ((h.num != 0) = true ∨ ((h.num != 0) = false ∧ (((bs h.text).toList == []) = false ∨ (((bs h.text).toList == []) = true ∧ (decide ((n : Int) < 2) = true ∨ (decide ((n : Int) < 2) = false ∧ decide ((2 : Int) < (n : Int)) = true)))))) := by
      revert hR
      cases (h.num != 0) <;> cases ((bs h.text).toList == []) <;> cases decide ((n : Int) < 2) <;> cases decide ((2 : Int) < (n : Int)) <;> simp
    clear hX hR IH hE hF' hbx hka
    rw [Bool.false_and]
    rcases hw with q0 | ⟨q0, q1 | ⟨q1, q2 | ⟨q2, q3⟩⟩⟩ <;> (
      go_enter Tryd.func51, Tryd.ntmps51
      go_wp2
      go_ret
      exact ⟨rfl, HB.out.1⟩)
  | true =>
    rw [hX] at hR
    have hw : (h.num != 0) = false ∧ ((bs h.text).toList == []) = true ∧ decide ((n : Int) < 2) = false ∧ decide ((2 : Int) < (n : Int)) = false := by
      revert hR
      cases (h.num != 0) <;> cases ((bs h.text).toList == []) <;> cases decide ((n : Int) < 2) <;> cases decide ((2 : Int) < (n : Int)) <;> simp
    obtain ⟨q0, q1, q2, q3⟩ := hw
    rw [Bool.true_and]
    generalize hD : rgtF (32 - d) F = D
    have HF2 : Hid (FoAt o S (w.alloc (.cells #[.int .i64 h.kind, .int .i64 h.num, .string (bs h.text), .slice ka n c, .int .i64 h.pl] 40)) F (some ⟨g, off + 0 * 5, none⟩) (n - 0) ∧ szF F ≤ N ∧ rgtF (32 - d) F = D ∧ Below w.heap.size w (w.alloc (.cells #[.int .i64 h.kind, .int .i64 h.num, .string (bs h.text), .slice ka n c, .int .i64 h.pl] 40)) ∧ (w.alloc (.cells #[.int .i64 h.kind, .int .i64 h.num, .string (bs h.text), .slice ka n c, .int .i64 h.pl] 40)).heap[w.heap.size]? = some (.cells #[.int .i64 h.kind, .int .i64 h.num, .string (bs h.text), .slice ka n c, .int .i64 h.pl] 40 (0, 0))) := ⟨hF'.below hbx, hN, hD, HB.out⟩
    clear hX hR hE hF' hbx hN hD HB
    go_enter Tryd.func51, Tryd.ntmps51
    go_wp2_with fail
    go_loopg [9] n (fun k iv wr => ∃ (F' : Fo) (i : Nat), iv = .int .i64 (i : Int) ∧ i + k = n ∧ Hid (FoAt o S wr F' (some ⟨g, off + i * 5, none⟩) (n - i) ∧ szF F' ≤ N ∧ rgtF (32 - d) F' = D ∧ Below w.heap.size w wr ∧ wr.heap[w.heap.size]? = some (.cells #[.int .i64 h.kind, .int .i64 h.num, .string (bs h.text), .slice ka n c, .int .i64 h.pl] 40 (0, 0))))
    case atStart => exact ⟨F, 0, rfl, by omega, HF2.out⟩
    case round =>
      clear HF2
      obtain ⟨F', i, rfl, hik, HT⟩ := hrel
      obtain ⟨v1, v2, v3, v4, v5⟩ := HT.out
      have bk := blk (i := 3) v5 rfl
      by_cases hi : i < n
      · have hdi : decide ((i : Int) < (n : Int)) = true := by simp; omega
        obtain ⟨b1, o1, h1, k1, r1, ka1, kc1, kk1, rfl, -, hok1, hkc1, ⟨c0, c1, c2, c3, c4⟩, hk1, hr1⟩ := foAt_head v1 hi
        have hka2 := hka (by omega)
        subst hka2
        have HR : Hid (FoAt o S wr r1 (some ⟨g, off + (i + 1) * 5, none⟩) (n - (i + 1)) ∧ szF r1 ≤ N ∧ (rgtE (d + 1) (h1, k1) && rgtF (32 - d) r1) = D ∧ Below w.heap.size w wr ∧ wr.heap[w.heap.size]? = some (.cells #[.int .i64 h.kind, .int .i64 h.num, .string (bs h.text), .slice (some ⟨g, off, none⟩) n c, .int .i64 h.pl] 40 (0, 0))) := by
          simp only [szF] at v2
          rw [rgtF_cons hd] at v3
          exact ⟨hr1, by omega, v3, v4, v5⟩
        have HKx : Hid (Calls Tryd.prog 51 #[.agg #[.int .i64 h1.kind, .int .i64 h1.num, .string (bs h1.text), .slice ka1 kc1 kk1, .int .i64 h1.pl], .int .i64 ((d : Int) + 1)] wr fun e' w' => e' = .returned (.bool (rgtE (d + 1) (h1, k1))) ∧ Below wr.heap.size wr w') := by
          simp only [szF] at v2
          exact IH.out (h1, k1) ka1 kc1 kk1 wr ⟨hok1, hkc1, hk1⟩ (by show szF k1 < N; omega)
        clear HT hk1 hr1 hok1 hkc1 v1 v2 v3 v4 v5
        cases hk : rgtE (d + 1) (h1, k1) with
        | true =>
          rw [hk] at HKx HR
          clear hk
          go_wp2_with fail
          refine HKx.out.mono ?_
          rintro e' w3 ⟨rfl, hb3⟩
          have HN : Hid (FoAt o S w3 r1 (some ⟨g, off + (i + 1) * 5, none⟩) (n - (i + 1)) ∧ szF r1 ≤ N ∧ rgtF (32 - d) r1 = D ∧ Below w.heap.size w w3 ∧ w3.heap[w.heap.size]? = some (.cells #[.int .i64 h.kind, .int .i64 h.num, .string (bs h.text), .slice (some ⟨g, off, none⟩) n c, .int .i64 h.pl] 40 (0, 0))) := by
            obtain ⟨a1, a2, a3, a4, a5⟩ := HR.out
            exact ⟨a1.below hb3, a2, by simpa using a3, a4.trans (hb3.mono a4.size), by rw [hb3.block _ (lt_block a5)]; exact a5⟩
          clear hb3 HR HKx bk c0 c1 c2 c3 c4
          go_wp2_with fail
          go_roundg (gk - 1)
          case measure => omega
          case rel => exact ⟨r1, i + 1, by go_num, by omega, HN.out⟩
        | false =>
          rw [hk] at HKx HR
          clear hk
          go_wp2_with fail
          refine HKx.out.mono ?_
          rintro e' w3 ⟨rfl, hb3⟩
          have HN : Hid (D = false ∧ Below w.heap.size w w3) := by
            obtain ⟨_, _, a3, a4, _⟩ := HR.out
            exact ⟨by simpa using a3.symm, a4.trans (hb3.mono a4.size)⟩
          clear hb3 HR HKx bk c0 c1 c2 c3 c4
          go_wp2
          go_ret
          exact ⟨ret_bool HN.out.1.symm, HN.out.2⟩
      · have hdi : decide ((i : Int) < (n : Int)) = false := by simp; omega
        have HX : Hid (D = true ∧ Below w.heap.size w wr) := by
          rw [show n - i = 0 by omega] at v1
          rw [foAt_end v1] at v3
          exact ⟨v3.symm.trans rfl, v4⟩
        clear HT v1 v2 v3 v4 v5
        go_wp2
        go_ret
        exact ⟨ret_bool HX.out.1.symm, HX.out.2⟩

set_option maxRecDepth 20000 in
set_option maxHeartbeats 8000000 in
theorem rE_7 {o : Bool} {S : Nat → Prop} (N d : Nat) (hd : d ≤ 32) (IH0 : ∀ (e : Ex) (ka : Option Addr) (kn kc : Nat) (w : World), ExAt o S w e ka kn → szF e.2 < N → Calls Tryd.prog 51 #[.agg #[.int .i64 e.1.kind, .int .i64 e.1.num, .string (bs e.1.text), .slice ka kn kc, .int .i64 e.1.pl], .int .i64 ((d : Int) + 1)] w fun e' w' => e' = .returned (.bool (rgtE (d + 1) e)) ∧ Below w.heap.size w w')
    (h : Hd) (F : Fo) (ka : Option Addr) (n c : Nat) (w : World) (hE : ExAt o S w (h, F) ka n) (hN : szF F ≤ N) (hk : h.kind = 7) :
    Calls Tryd.prog 51 #[.agg #[.int .i64 h.kind, .int .i64 h.num, .string (bs h.text), .slice ka n c, .int .i64 h.pl], .int .i64 (d : Int)] w fun e' w' => e' = .returned (.bool (hdRight h n && rgtF (32 - d) F)) ∧ Below w.heap.size w w' := by
  have IH : Hid (∀ (e : Ex) (ka : Option Addr) (kn kc : Nat) (w : World), ExAt o S w e ka kn → szF e.2 < N → Calls Tryd.prog 51 #[.agg #[.int .i64 e.1.kind, .int .i64 e.1.num, .string (bs e.1.text), .slice ka kn kc, .int .i64 e.1.pl], .int .i64 ((d : Int) + 1)] w fun e' w' => e' = .returned (.bool (rgtE (d + 1) e)) ∧ Below w.heap.size w w') := IH0
  have hR : hdRight h n = (!(h.num != 0) && (((bs h.text).toList == []) && (!decide ((n : Int) < 2) && !decide ((2 : Int) < (n : Int))))) := by
    have e1 : ((bs h.text).toList == []) = decide (h.text = []) := emptyT _
    rw [e1, Bool.eq_iff_iff]
    unfold hdRight
    rw [hk]
    simp <;> omega
  have hn2 := hE.few
  unfold maxLen at hn2
  have hdd : decide ((32 : Int) < (d : Int)) = false := by simp; omega
  have k1 : (h.kind == 1) = false := by rw [beq_eq_false_iff_ne]; omega
  have k2 : (h.kind == 2) = false := by rw [beq_eq_false_iff_ne]; omega
  have k3 : (h.kind == 3) = false := by rw [beq_eq_false_iff_ne]; omega
  have k4 : (h.kind == 4) = false := by rw [beq_eq_false_iff_ne]; omega
  have k5 : (h.kind == 5) = false := by rw [beq_eq_false_iff_ne]; omega
  have k6 : (h.kind == 6) = false := by rw [beq_eq_false_iff_ne]; omega
  have k7 : (h.kind == 7) = true := by rw [beq_iff_eq]; omega
  have kn1 : (h.kind != 1) = true := by simp [hk]
  have kg3 : decide ((3 : Int) < h.kind) = true := by simp [hk]
  obtain ⟨g, off, hka, hF'⟩ := foAt_addr hE.kids
  have hbx : Below w.heap.size w (w.alloc (.cells #[.int .i64 h.kind, .int .i64 h.num, .string (bs h.text), .slice ka n c, .int .i64 h.pl] 40)) := (Below.refl _ _).alloc (Nat.le_refl _) _
  have HB : Hid (Below w.heap.size w (w.alloc (.cells #[.int .i64 h.kind, .int .i64 h.num, .string (bs h.text), .slice ka n c, .int .i64 h.pl] 40)) ∧ (w.alloc (.cells #[.int .i64 h.kind, .int .i64 h.num, .string (bs h.text), .slice ka n c, .int .i64 h.pl] 40)).heap[w.heap.size]? = some (.cells #[.int .i64 h.kind, .int .i64 h.num, .string (bs h.text), .slice ka n c, .int .i64 h.pl] 40 (0, 0))) := ⟨hbx, heap_alloc_new w _⟩
  clear hk IH0
  cases hX : hdRight h n with
  | false =>
    rw [hX] at hR
    have hw : ((h.num != 0) = true ∨ ((h.num != 0) = false ∧ (((bs h.text).toList == []) = false ∨ (((bs h.text).toList == []) = true ∧ (decide ((n : Int) < 2) = true ∨ (decide ((n : Int) < 2) = false ∧ decide ((2 : Int) < (n : Int)) = true)))))) := by
      revert hR
      cases (h.num != 0) <;> cases ((bs h.text).toList == []) <;> cases decide ((n : Int) < 2) <;> cases decide ((2 : Int) < (n : Int)) <;> simp
    clear hX hR IH hE hF' hbx hka
    rw [Bool.false_and]
    rcases hw with q0 | ⟨q0, q1 | ⟨q1, q2 | ⟨q2, q3⟩⟩⟩ <;> (
      go_enter Tryd.func51, Tryd.ntmps51
      go_wp2
      go_ret
      exact ⟨rfl, HB.out.1⟩)
  | true =>
    rw [hX] at hR
    have hw : (h.num != 0) = false ∧ ((bs h.text).toList == []) = true ∧ decide ((n : Int) < 2) = false ∧ decide ((2 : Int) < (n : Int)) = false := by
      revert hR
      cases (h.num != 0) <;> cases ((bs h.text).toList == []) <;> cases decide ((n : Int) < 2) <;> cases decide ((2 : Int) < (n : Int)) <;> simp
    obtain ⟨q0, q1, q2, q3⟩ := hw
    rw [Bool.true_and]
    generalize hD : rgtF (32 - d) F = D
    have HF2 : Hid (FoAt o S (w.alloc (.cells #[.int .i64 h.kind, .int .i64 h.num, .string (bs h.text), .slice ka n c, .int .i64 h.pl] 40)) F (some ⟨g, off + 0 * 5, none⟩) (n - 0) ∧ szF F ≤ N ∧ rgtF (32 - d) F = D ∧ Below w.heap.size w (w.alloc (.cells #[.int .i64 h.kind, .int .i64 h.num, .string (bs h.text), .slice ka n c, .int .i64 h.pl] 40)) ∧ (w.alloc (.cells #[.int .i64 h.kind, .int .i64 h.num, .string (bs h.text), .slice ka n c, .int .i64 h.pl] 40)).heap[w.heap.size]? = some (.cells #[.int .i64 h.kind, .int .i64 h.num, .string (bs h.text), .slice ka n c, .int .i64 h.pl] 40 (0, 0))) := ⟨hF'.below hbx, hN, hD, HB.out⟩
    clear hX hR hE hF' hbx hN hD HB
    go_enter Tryd.func51, Tryd.ntmps51
    go_wp2_with fail
    go_loopg [9] n (fun k iv wr => ∃ (F' : Fo) (i : Nat), iv = .int .i64 (i : Int) ∧ i + k = n ∧ Hid (FoAt o S wr F' (some ⟨g, off + i * 5, none⟩) (n - i) ∧ szF F' ≤ N ∧ rgtF (32 - d) F' = D ∧ Below w.heap.size w wr ∧ wr.heap[w.heap.size]? = some (.cells #[.int .i64 h.kind, .int .i64 h.num, .string (bs h.text), .slice ka n c, .int .i64 h.pl] 40 (0, 0))))
    case atStart => exact ⟨F, 0, rfl, by omega, HF2.out⟩
    case round =>
      clear HF2
      obtain ⟨F', i, rfl, hik, HT⟩ := hrel
      obtain ⟨v1, v2, v3, v4, v5⟩ := HT.out
      have bk := blk (i := 3) v5 rfl
      by_cases hi : i < n
      · have hdi : decide ((i : Int) < (n : Int)) = true := by simp; omega
        obtain ⟨b1, o1, h1, k1, r1, ka1, kc1, kk1, rfl, -, hok1, hkc1, ⟨c0, c1, c2, c3, c4⟩, hk1, hr1⟩ := foAt_head v1 hi
        have hka2 := hka (by omega)
        subst hka2
        have HR : Hid (FoAt o S wr r1 (some ⟨g, off + (i + 1) * 5, none⟩) (n - (i + 1)) ∧ szF r1 ≤ N ∧ (rgtE (d + 1) (h1, k1) && rgtF (32 - d) r1) = D ∧ Below w.heap.size w wr ∧ wr.heap[w.heap.size]? = some (.cells #[.int .i64 h.kind, .int .i64 h.num, .string (bs h.text), .slice (some ⟨g, off, none⟩) n c, .int .i64 h.pl] 40 (0, 0))) := by
          simp only [szF] at v2
          rw [rgtF_cons hd] at v3
          exact ⟨hr1, by omega, v3, v4, v5⟩
        have HKx : Hid (Calls Tryd.prog 51 #[.agg #[.int .i64 h1.kind, .int .i64 h1.num, .string (bs h1.text), .slice ka1 kc1 kk1, .int .i64 h1.pl], .int .i64 ((d : Int) + 1)] wr fun e' w' => e' = .returned (.bool (rgtE (d + 1) (h1, k1))) ∧ Below wr.heap.size wr w') := by
          simp only [szF] at v2
          exact IH.out (h1, k1) ka1 kc1 kk1 wr ⟨hok1, hkc1, hk1⟩ (by show szF k1 < N; omega)
        clear HT hk1 hr1 hok1 hkc1 v1 v2 v3 v4 v5
        cases hk : rgtE (d + 1) (h1, k1) with
        | true =>
          rw [hk] at HKx HR
          clear hk
          go_wp2_with fail
          refine HKx.out.mono ?_
          rintro e' w3 ⟨rfl, hb3⟩
          have HN : Hid (FoAt o S w3 r1 (some ⟨g, off + (i + 1) * 5, none⟩) (n - (i + 1)) ∧ szF r1 ≤ N ∧ rgtF (32 - d) r1 = D ∧ Below w.heap.size w w3 ∧ w3.heap[w.heap.size]? = some (.cells #[.int .i64 h.kind, .int .i64 h.num, .string (bs h.text), .slice (some ⟨g, off, none⟩) n c, .int .i64 h.pl] 40 (0, 0))) := by
            obtain ⟨a1, a2, a3, a4, a5⟩ := HR.out
            exact ⟨a1.below hb3, a2, by simpa using a3, a4.trans (hb3.mono a4.size), by rw [hb3.block _ (lt_block a5)]; exact a5⟩
          clear hb3 HR HKx bk c0 c1 c2 c3 c4
          go_wp2_with fail
          go_roundg (gk - 1)
          case measure => omega
          case rel => exact ⟨r1, i + 1, by go_num, by omega, HN.out⟩
        | false =>
          rw [hk] at HKx HR
          clear hk
          go_wp2_with fail
          refine HKx.out.mono ?_
          rintro e' w3 ⟨rfl, hb3⟩
          have HN : Hid (D = false ∧ Below w.heap.size w w3) := by
            obtain ⟨_, _, a3, a4, _⟩ := HR.out
            exact ⟨by simpa using a3.symm, a4.trans (hb3.mono a4.size)⟩
          clear hb3 HR HKx bk c0 c1 c2 c3 c4
          go_wp2
          go_ret
          exact ⟨ret_bool HN.out.1.symm, HN.out.2⟩
      · have hdi : decide ((i : Int) < (n : Int)) = false := by simp; omega
        have HX : Hid (D = true ∧ Below w.heap.size w wr) := by
          rw [show n - i = 0 by omega] at v1
          rw [foAt_end v1] at v3
          exact ⟨v3.symm.trans rfl, v4⟩
        clear HT v1 v2 v3 v4 v5
        go_wp2
        go_ret
        exact ⟨ret_bool HX.out.1.symm, HX.out.2⟩

end Go.Proofs.YtpeldiibjhffiaaDoor
namespace Go.Proofs.YtpeldiibjhffiaaDoor
open Go.RowKit Go.Deep

set_option maxRecDepth 20000 in
set_option maxHeartbeats 8000000 in
theorem rE_8 {o : Bool} {S : Nat → Prop} (N d : Nat) (hd : d ≤ 32) (IH0 : ∀ (e : Ex) (ka : Option Addr) (kn kc : Nat) (w : World), ExAt o S w e ka kn → szF e.2 < N → Calls Tryd.prog 51 #[.agg #[.int .i64 e.1.kind, .int .i64 e.1.num, .string (bs e.1.text), .slice ka kn kc, .int .i64 e.1.pl], .int .i64 ((d : Int) + 1)] w fun e' w' => e' = .returned (.bool (rgtE (d + 1) e)) ∧ Below w.heap.size w w')
    (h : Hd) (F : Fo) (ka : Option Addr) (n c : Nat) (w : World) (hE : ExAt o S w (h, F) ka n) (hN : szF F ≤ N) (hk : h.kind = 8) :
    Calls Tryd.prog 51 #[.agg #[.int .i64 h.kind, .int .i64 h.num, .string (bs h.text), .slice ka n c, .int .i64 h.pl], .int .i64 (d : Int)] w fun e' w' => e' = .returned (.bool (hdRight h n && rgtF (32 - d) F)) ∧ Below w.heap.size w w' := by
  have IH : Hid (∀ (e : Ex) (ka : Option Addr) (kn kc : Nat) (w : World), ExAt o S w e ka kn → szF e.2 < N → Calls Tryd.prog 51 #[.agg #[.int .i64 e.1.kind, .int .i64 e.1.num, .string (bs e.1.text), .slice ka kn kc, .int .i64 e.1.pl], .int .i64 ((d : Int) + 1)] w fun e' w' => e' = .returned (.bool (rgtE (d + 1) e)) ∧ Below w.heap.size w w') := IH0
  have hR : hdRight h n = (!(h.num != 0) && (((bs h.text).toList == []) && (!decide ((n : Int) < 1) && !decide ((8 : Int) < (n : Int))))) := by
    have e1 : ((bs h.text).toList == []) = decide (h.text = []) := emptyT _
    rw [e1, Bool.eq_iff_iff]
    unfold hdRight
    rw [hk]
    simp <;> omega
  have hn2 := hE.few
  unfold maxLen at hn2
  have hdd : decide ((32 : Int) < (d : Int)) = false := by simp; omega
  have k1 : (h.kind == 1) = false := by rw [beq_eq_false_iff_ne]; omega
  have k2 : (h.kind == 2) = false := by rw [beq_eq_false_iff_ne]; omega
  have k3 : (h.kind == 3) = false := by rw [beq_eq_false_iff_ne]; omega
  have k4 : (h.kind == 4) = false := by rw [beq_eq_false_iff_ne]; omega
  have k5 : (h.kind == 5) = false := by rw [beq_eq_false_iff_ne]; omega
  have k6 : (h.kind == 6) = false := by rw [beq_eq_false_iff_ne]; omega
  have k7 : (h.kind == 7) = false := by rw [beq_eq_false_iff_ne]; omega
  have k8 : (h.kind == 8) = true := by rw [beq_iff_eq]; omega
  have kn1 : (h.kind != 1) = true := by simp [hk]
  have kg3 : decide ((3 : Int) < h.kind) = true := by simp [hk]
  obtain ⟨g, off, hka, hF'⟩ := foAt_addr hE.kids
  have hbx : Below w.heap.size w (w.alloc (.cells #[.int .i64 h.kind, .int .i64 h.num, .string (bs h.text), .slice ka n c, .int .i64 h.pl] 40)) := (Below.refl _ _).alloc (Nat.le_refl _) _
  have HB : Hid (Below w.heap.size w (w.alloc (.cells #[.int .i64 h.kind, .int .i64 h.num, .string (bs h.text), .slice ka n c, .int .i64 h.pl] 40)) ∧ (w.alloc (.cells #[.int .i64 h.kind, .int .i64 h.num, .string (bs h.text), .slice ka n c, .int .i64 h.pl] 40)).heap[w.heap.size]? = some (.cells #[.int .i64 h.kind, .int .i64 h.num, .string (bs h.text), .slice ka n c, .int .i64 h.pl] 40 (0, 0))) := ⟨hbx, heap_alloc_new w _⟩
  clear hk IH0
  cases hX : hdRight h n with
  | false =>
    rw [hX] at hR
    have hw : ((h.num != 0) = true ∨ ((h.num != 0) = false ∧ (((bs h.text).toList == []) = false ∨ (((bs h.text).toList == []) = true ∧ (decide ((n : Int) < 1) = true ∨ (decide ((n : Int) < 1) = false ∧ decide ((8 : Int) < (n : Int)) = true)))))) := by
      revert hR
      cases (h.num != 0) <;> cases ((bs h.text).toList == []) <;> cases decide ((n : Int) < 1) <;> cases decide ((8 : Int) < (n : Int)) <;> simp
    clear hX hR IH hE hF' hbx hka
    rw [Bool.false_and]
    rcases hw with q0 | ⟨q0, q1 | ⟨q1, q2 | ⟨q2, q3⟩⟩⟩ <;> (
      go_enter Tryd.func51, Tryd.ntmps51
      go_wp2
      go_ret
      exact ⟨rfl, HB.out.1⟩)
  | true =>
    rw [hX] at hR
    have hw : (h.num != 0) = false ∧ ((bs h.text).toList == []) = true ∧ decide ((n : Int) < 1) = false ∧ decide ((8 : Int) < (n : Int)) = false := by
      revert hR
      cases (h.num != 0) <;> cases ((bs h.text).toList == []) <;> cases decide ((n : Int) < 1) <;> cases decide ((8 : Int) < (n : Int)) <;> simp
    obtain ⟨q0, q1, q2, q3⟩ := hw
    rw [Bool.true_and]
    generalize hD : rgtF (32 - d) F = D
    have HF2 : Hid (FoAt o S (w.alloc (.cells #[.int .i64 h.kind, .int .i64 h.num, .string (bs h.text), .slice ka n c, .int .i64 h.pl] 40)) F (some ⟨g, off + 0 * 5, none⟩) (n - 0) ∧ szF F ≤ N ∧ rgtF (32 - d) F = D ∧ Below w.heap.size w (w.alloc (.cells #[.int .i64 h.kind, .int .i64 h.num, .string (bs h.text), .slice ka n c, .int .i64 h.pl] 40)) ∧ (w.alloc (.cells #[.int .i64 h.kind, .int .i64 h.num, .string (bs h.text), .slice ka n c, .int .i64 h.pl] 40)).heap[w.heap.size]? = some (.cells #[.int .i64 h.kind, .int .i64 h.num, .string (bs h.text), .slice ka n c, .int .i64 h.pl] 40 (0, 0))) := ⟨hF'.below hbx, hN, hD, HB.out⟩
    clear hX hR hE hF' hbx hN hD HB
    go_enter Tryd.func51, Tryd.ntmps51
    go_wp2_with fail
    go_loopg [9] n (fun k iv wr => ∃ (F' : Fo) (i : Nat), iv = .int .i64 (i : Int) ∧ i + k = n ∧ Hid (FoAt o S wr F' (some ⟨g, off + i * 5, none⟩) (n - i) ∧ szF F' ≤ N ∧ rgtF (32 - d) F' = D ∧ Below w.heap.size w wr ∧ wr.heap[w.heap.size]? = some (.cells #[.int .i64 h.kind, .int .i64 h.num, .string (bs h.text), .slice ka n c, .int .i64 h.pl] 40 (0, 0))))
    case atStart => exact ⟨F, 0, rfl, by omega, HF2.out⟩
    case round =>
      clear HF2
      obtain ⟨F', i, rfl, hik, HT⟩ := hrel
      obtain ⟨v1, v2, v3, v4, v5⟩ := HT.out
      have bk := blk (i := 3) v5 rfl
      by_cases hi : i < n
      · have hdi : decide ((i : Int) < (n : Int)) = true := by simp; omega
        obtain ⟨b1, o1, h1, k1, r1, ka1, kc1, kk1, rfl, -, hok1, hkc1, ⟨c0, c1, c2, c3, c4⟩, hk1, hr1⟩ := foAt_head v1 hi
        have hka2 := hka (by omega)
        subst hka2
        have HR : Hid (FoAt o S wr r1 (some ⟨g, off + (i + 1) * 5, none⟩) (n - (i + 1)) ∧ szF r1 ≤ N ∧ (rgtE (d + 1) (h1, k1) && rgtF (32 - d) r1) = D ∧ Below w.heap.size w wr ∧ wr.heap[w.heap.size]? = some (.cells #[.int .i64 h.kind, .int .i64 h.num, .string (bs h.text), .slice (some ⟨g, off, none⟩) n c, .int .i64 h.pl] 40 (0, 0))) := by
          simp only [szF] at v2
          rw [rgtF_cons hd] at v3
          exact ⟨hr1, by omega, v3, v4, v5⟩
        have HKx : Hid (Calls Tryd.prog 51 #[.agg #[.int .i64 h1.kind, .int .i64 h1.num, .string (bs h1.text), .slice ka1 kc1 kk1, .int .i64 h1.pl], .int .i64 ((d : Int) + 1)] wr fun e' w' => e' = .returned (.bool (rgtE (d + 1) (h1, k1))) ∧ Below wr.heap.size wr w') := by
          simp only [szF] at v2
          exact IH.out (h1, k1) ka1 kc1 kk1 wr ⟨hok1, hkc1, hk1⟩ (by show szF k1 < N; omega)
        clear HT hk1 hr1 hok1 hkc1 v1 v2 v3 v4 v5
        cases hk : rgtE (d + 1) (h1, k1) with
        | true =>
          rw [hk] at HKx HR
          clear hk
          go_wp2_with fail
          refine HKx.out.mono ?_
          rintro e' w3 ⟨rfl, hb3⟩
          have HN : Hid (FoAt o S w3 r1 (some ⟨g, off + (i + 1) * 5, none⟩) (n - (i + 1)) ∧ szF r1 ≤ N ∧ rgtF (32 - d) r1 = D ∧ Below w.heap.size w w3 ∧ w3.heap[w.heap.size]? = some (.cells #[.int .i64 h.kind, .int .i64 h.num, .string (bs h.text), .slice (some ⟨g, off, none⟩) n c, .int .i64 h.pl] 40 (0, 0))) := by
            obtain ⟨a1, a2, a3, a4, a5⟩ := HR.out
            exact ⟨a1.below hb3, a2, by simpa using a3, a4.trans (hb3.mono a4.size), by rw [hb3.block _ (lt_block a5)]; exact a5⟩
          clear hb3 HR HKx bk c0 c1 c2 c3 c4
          go_wp2_with fail
          go_roundg (gk - 1)
          case measure => omega
          case rel => exact ⟨r1, i + 1, by go_num, by omega, HN.out⟩
        | false =>
          rw [hk] at HKx HR
          clear hk
          go_wp2_with fail
          refine HKx.out.mono ?_
          rintro e' w3 ⟨rfl, hb3⟩
          have HN : Hid (D = false ∧ Below w.heap.size w w3) := by
            obtain ⟨_, _, a3, a4, _⟩ := HR.out
            exact ⟨by simpa using a3.symm, a4.trans (hb3.mono a4.size)⟩
          clear hb3 HR HKx bk c0 c1 c2 c3 c4
          go_wp2
          go_ret
          exact ⟨ret_bool HN.out.1.symm, HN.out.2⟩
      · have hdi : decide ((i : Int) < (n : Int)) = false := by simp; omega
        have HX : Hid (D = true ∧ Below w.heap.size w wr) := by
          rw [show n - i = 0 by omega] at v1
          rw [foAt_end v1] at v3
          exact ⟨v3.symm.trans rfl, v4⟩
        clear HT v1 v2 v3 v4 v5
        go_wp2
        go_ret
        exact ⟨ret_bool HX.out.1.symm, HX.out.2⟩

set_option maxRecDepth 20000 in
set_option maxHeartbeats 8000000 in
theorem rE_9 {o : Bool} {S : Nat → Prop} (N d : Nat) (hd : d ≤ 32) (IH0 : ∀ (e : Ex) (ka : Option Addr) (kn kc : Nat) (w : World), ExAt o S w e ka kn → szF e.2 < N → Calls Tryd.prog 51 #[.agg #[.int .i64 e.1.kind, .int .i64 e.1.num, .string (bs e.1.text), .slice ka kn kc, .int .i64 e.1.pl], .int .i64 ((d : Int) + 1)] w fun e' w' => e' = .returned (.bool (rgtE (d + 1) e)) ∧ Below w.heap.size w w')
    (h : Hd) (F : Fo) (ka : Option Addr) (n c : Nat) (w : World) (hE : ExAt o S w (h, F) ka n) (hN : szF F ≤ N) (hk : h.kind = 9) :
    Calls Tryd.prog 51 #[.agg #[.int .i64 h.kind, .int .i64 h.num, .string (bs h.text), .slice ka n c, .int .i64 h.pl], .int .i64 (d : Int)] w fun e' w' => e' = .returned (.bool (hdRight h n && rgtF (32 - d) F)) ∧ Below w.heap.size w w' := by
  have IH : Hid (∀ (e : Ex) (ka : Option Addr) (kn kc : Nat) (w : World), ExAt o S w e ka kn → szF e.2 < N → Calls Tryd.prog 51 #[.agg #[.int .i64 e.1.kind, .int .i64 e.1.num, .string (bs e.1.text), .slice ka kn kc, .int .i64 e.1.pl], .int .i64 ((d : Int) + 1)] w fun e' w' => e' = .returned (.bool (rgtE (d + 1) e)) ∧ Below w.heap.size w w') := IH0
  have hR : hdRight h n = (!(h.num != 0) && (((bs h.text).toList == []) && (!decide ((n : Int) < 1) && !decide ((8 : Int) < (n : Int))))) := by
    have e1 : ((bs h.text).toList == []) = decide (h.text = []) := emptyT _
    rw [e1, Bool.eq_iff_iff]
    unfold hdRight
    rw [hk]
    simp <;> omega
  have hn2 := hE.few
  unfold maxLen at hn2
  have hdd : decide ((32 : Int) < (d : Int)) = false := by simp; omega
  have k1 : (h.kind == 1) = false := by rw [beq_eq_false_iff_ne]; omega
  have k2 : (h.kind == 2) = false := by rw [beq_eq_false_iff_ne]; omega
  have k3 : (h.kind == 3) = false := by rw [beq_eq_false_iff_ne]; omega
  have k4 : (h.kind == 4) = false := by rw [beq_eq_false_iff_ne]; omega
  have k5 : (h.kind == 5) = false := by rw [beq_eq_false_iff_ne]; omega
  have k6 : (h.kind == 6) = false := by rw [beq_eq_false_iff_ne]; omega
  have k7 : (h.kind == 7) = false := by rw [beq_eq_false_iff_ne]; omega
  have k8 : (h.kind == 8) = false := by rw [beq_eq_false_iff_ne]; omega
  have k9 : (h.kind == 9) = true := by rw [beq_iff_eq]; omega
  have kn1 : (h.kind != 1) = true := by simp [hk]
  have kg3 : decide ((3 : Int) < h.kind) = true := by simp [hk]
  obtain ⟨g, off, hka, hF'⟩ := foAt_addr hE.kids
  have hbx : Below w.heap.size w (w.alloc (.cells #[.int .i64 h.kind, .int .i64 h.num, .string (bs h.text), .slice ka n c, .int .i64 h.pl] 40)) := (Below.refl _ _).alloc (Nat.le_refl _) _
  have HB : Hid (Below w.heap.size w (w.alloc (.cells #[.int .i64 h.kind, .int .i64 h.num, .string (bs h.text), .slice ka n c, .int .i64 h.pl] 40)) ∧ (w.alloc (.cells #[.int .i64 h.kind, .int .i64 h.num, .string (bs h.text), .slice ka n c, .int .i64 h.pl] 40)).heap[w.heap.size]? = some (.cells #[.int .i64 h.kind, .int .i64 h.num, .string (bs h.text), .slice ka n c, .int .i64 h.pl] 40 (0, 0))) := ⟨hbx, heap_alloc_new w _⟩
  clear hk IH0
  cases hX : hdRight h n with
  | false =>
    rw [hX] at hR
    have hw : ((h.num != 0) = true ∨ ((h.num != 0) = false ∧ (((bs h.text).toList == []) = false ∨ (((bs h.text).toList == []) = true ∧ (decide ((n : Int) < 1) = true ∨ (decide ((n : Int) < 1) = false ∧ decide ((8 : Int) < (n : Int)) = true)))))) := by
      revert hR
      cases (h.num != 0) <;> cases ((bs h.text).toList == []) <;> cases decide ((n : Int) < 1) <;> cases decide ((8 : Int) < (n : Int)) <;> simp
    clear hX hR IH hE hF' hbx hka
    rw [Bool.false_and]
    rcases hw with q0 | ⟨q0, q1 | ⟨q1, q2 | ⟨q2, q3⟩⟩⟩ <;> (
      go_enter Tryd.func51, Tryd.ntmps51
      go_wp2
      go_ret
      exact ⟨rfl, HB.out.1⟩)
  | true =>
    rw [hX] at hR
    have hw : (h.num != 0) = false ∧ ((bs h.text).toList == []) = true ∧ decide ((n : Int) < 1) = false ∧ decide ((8 : Int) < (n : Int)) = false := by
      revert hR
      cases (h.num != 0) <;> cases ((bs h.text).toList == []) <;> cases decide ((n : Int) < 1) <;> cases decide ((8 : Int) < (n : Int)) <;> simp
    obtain ⟨q0, q1, q2, q3⟩ := hw
    rw [Bool.true_and]
    generalize hD : rgtF (32 - d) F = D
    have HF2 : Hid (FoAt o S (w.alloc (.cells #[.int .i64 h.kind, .int .i64 h.num, .string (bs h.text), .slice ka n c, .int .i64 h.pl] 40)) F (some ⟨g, off + 0 * 5, none⟩) (n - 0) ∧ szF F ≤ N ∧ rgtF (32 - d) F = D ∧ Below w.heap.size w (w.alloc (.cells #[.int .i64 h.kind, .int .i64 h.num, .string (bs h.text), .slice ka n c, .int .i64 h.pl] 40)) ∧ (w.alloc (.cells #[.int .i64 h.kind, .int .i64 h.num, .string (bs h.text), .slice ka n c, .int .i64 h.pl] 40)).heap[w.heap.size]? = some (.cells #[.int .i64 h.kind, .int .i64 h.num, .string (bs h.text), .slice ka n c, .int .i64 h.pl] 40 (0, 0))) := ⟨hF'.below hbx, hN, hD, HB.out⟩
    clear hX hR hE hF' hbx hN hD HB
    go_enter Tryd.func51, Tryd.ntmps51
    go_wp2_with fail
    go_loopg [9] n (fun k iv wr => ∃ (F' : Fo) (i : Nat), iv = .int .i64 (i : Int) ∧ i + k = n ∧ Hid (FoAt o S wr F' (some ⟨g, off + i * 5, none⟩) (n - i) ∧ szF F' ≤ N ∧ rgtF (32 - d) F' = D ∧ Below w.heap.size w wr ∧ wr.heap[w.heap.size]? = some (.cells #[.int .i64 h.kind, .int .i64 h.num, .string (bs h.text), .slice ka n c, .int .i64 h.pl] 40 (0, 0))))
    case atStart => exact ⟨F, 0, rfl, by omega, HF2.out⟩
    case round =>
      clear HF2
      obtain ⟨F', i, rfl, hik, HT⟩ := hrel
      obtain ⟨v1, v2, v3, v4, v5⟩ := HT.out
      have bk := blk (i := 3) v5 rfl
      by_cases hi : i < n
      · have hdi : decide ((i : Int) < (n : Int)) = true := by simp; omega
        obtain ⟨b1, o1, h1, k1, r1, ka1, kc1, kk1, rfl, -, hok1, hkc1, ⟨c0, c1, c2, c3, c4⟩, hk1, hr1⟩ := foAt_head v1 hi
        have hka2 := hka (by omega)
        subst hka2
        have HR : Hid (FoAt o S wr r1 (some ⟨g, off + (i + 1) * 5, none⟩) (n - (i + 1)) ∧ szF r1 ≤ N ∧ (rgtE (d + 1) (h1, k1) && rgtF (32 - d) r1) = D ∧ Below w.heap.size w wr ∧ wr.heap[w.heap.size]? = some (.cells #[.int .i64 h.kind, .int .i64 h.num, .string (bs h.text), .slice (some ⟨g, off, none⟩) n c, .int .i64 h.pl] 40 (0, 0))) := by
          simp only [szF] at v2
          rw [rgtF_cons hd] at v3
          exact ⟨hr1, by omega, v3, v4, v5⟩
        have HKx : Hid (Calls Tryd.prog 51 #[.agg #[.int .i64 h1.kind, .int .i64 h1.num, .string (bs h1.text), .slice ka1 kc1 kk1, .int .i64 h1.pl], .int .i64 ((d : Int) + 1)] wr fun e' w' => e' = .returned (.bool (rgtE (d + 1) (h1, k1))) ∧ Below wr.heap.size wr w') := by
          simp only [szF] at v2
          exact IH.out (h1, k1) ka1 kc1 kk1 wr ⟨hok1, hkc1, hk1⟩ (by show szF k1 < N; omega)
        clear HT hk1 hr1 hok1 hkc1 v1 v2 v3 v4 v5
        cases hk : rgtE (d + 1) (h1, k1) with
        | true =>
          rw [hk] at HKx HR
          clear hk
          go_wp2_with fail
          refine HKx.out.mono ?_
          rintro e' w3 ⟨rfl, hb3⟩
          have HN : Hid (FoAt o S w3 r1 (some ⟨g, off + (i + 1) * 5, none⟩) (n - (i + 1)) ∧ szF r1 ≤ N ∧ rgtF (32 - d) r1 = D ∧ Below w.heap.size w w3 ∧ w3.heap[w.heap.size]? = some (.cells #[.int .i64 h.kind, .int .i64 h.num, .string (bs h.text), .slice (some ⟨g, off, none⟩) n c, .int .i64 h.pl] 40 (0, 0))) := by
            obtain ⟨a1, a2, a3, a4, a5⟩ := HR.out
            exact ⟨a1.below hb3, a2, by simpa using a3, a4.trans (hb3.mono a4.size), by rw [hb3.block _ (lt_block a5)]; exact a5⟩
          clear hb3 HR HKx bk c0 c1 c2 c3 c4
          go_wp2_with fail
          go_roundg (gk - 1)
          case measure => omega
          case rel => exact ⟨r1, i + 1, by go_num, by omega, HN.out⟩
        | false =>
          rw [hk] at HKx HR
          clear hk
          go_wp2_with fail
          refine HKx.out.mono ?_
          rintro e' w3 ⟨rfl, hb3⟩
          have HN : Hid (D = false ∧ Below w.heap.size w w3) := by
            obtain ⟨_, _, a3, a4, _⟩ := HR.out
            exact ⟨by simpa using a3.symm, a4.trans (hb3.mono a4.size)⟩
          clear hb3 HR HKx bk c0 c1 c2 c3 c4
          go_wp2
          go_ret
          exact ⟨ret_bool HN.out.1.symm, HN.out.2⟩
      · have hdi : decide ((i : Int) < (n : Int)) = false := by simp; omega
        have HX : Hid (D = true ∧ Below w.heap.size w wr) := by
          rw [show n - i = 0 by omega] at v1
          rw [foAt_end v1] at v3
          exact ⟨v3.symm.trans rfl, v4⟩
        clear HT v1 v2 v3 v4 v5
        go_wp2
        go_ret
        exact ⟨ret_bool HX.out.1.symm, HX.out.2⟩

end Go.Proofs.YtpeldiibjhffiaaDoor
