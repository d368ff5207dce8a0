/-
  The document's RightExpr, by kinds (8, 9). The document's RightExpr, by kinds (2, 3). The document's RightExpr.
-/
import Derived.Test.YtpeldiibjhffiaaGreatDoorG26
namespace Go.Proofs.YtpeldiibjhffiaaGreatDoor
open Go.RowKit Go.Deep

set_option maxRecDepth 20000 in
set_option maxHeartbeats 8000000 in
theorem rE_8 {o : Bool} {S : Nat → Prop} (N d : Nat) (hd : d ≤ 32) (IH0 : ∀ (e : Ex) (ka : Option Addr) (kn kc : Nat) (w : World), ExAt o S w e ka kn → szF e.2 < N → Calls Tryz.prog 13 #[.agg #[.int .i64 e.1.kind, .int .i64 e.1.num, .string (bs e.1.text), .slice ka kn kc, .int .i64 e.1.pl], .int .i64 ((d : Int) + 1)] w fun e' w' => e' = .returned (.bool (rgtE (d + 1) e)) ∧ Below w.heap.size w w')
    (h : Hd) (F : Fo) (ka : Option Addr) (n c : Nat) (w : World) (hE : ExAt o S w (h, F) ka n) (hN : szF F ≤ N) (hk : h.kind = 8) :
    Calls Tryz.prog 13 #[.agg #[.int .i64 h.kind, .int .i64 h.num, .string (bs h.text), .slice ka n c, .int .i64 h.pl], .int .i64 (d : Int)] w fun e' w' => e' = .returned (.bool (hdRight h n && rgtF (32 - d) F)) ∧ Below w.heap.size w w' := by
  have IH : Hid (∀ (e : Ex) (ka : Option Addr) (kn kc : Nat) (w : World), ExAt o S w e ka kn → szF e.2 < N → Calls Tryz.prog 13 #[.agg #[.int .i64 e.1.kind, .int .i64 e.1.num, .string (bs e.1.text), .slice ka kn kc, .int .i64 e.1.pl], .int .i64 ((d : Int) + 1)] w fun e' w' => e' = .returned (.bool (rgtE (d + 1) e)) ∧ Below w.heap.size w w') := IH0
  have hR : hdRight h n = (!(h.num != 0) && (((bs h.text).toList == []) && (!decide ((n : Int) < 1) && !decide ((8 : Int) < (n : Int))))) := by
    have e1 : ((bs h.text).toList == []) = decide (h.text = []) := emptyT _
    rw [e1, Bool.eq_iff_iff]
    unfold hdRight
    rw [hk]
    simp <;> omega
  have hn2 := hE.few
  unfold maxLen at hn2
  have hdd : decide ((32 : Int) < (d : Int)) = false := by simp; omega
  have k1 : (h.kind == 1) = false := by rw [beq_eq_false_iff_ne]; omega
  have k2 : (h.kind == 2) = false := by rw [beq_eq_false_iff_ne]; omega
  have k3 : (h.kind == 3) = false := by rw [beq_eq_false_iff_ne]; omega
  have k4 : (h.kind == 4) = false := by rw [beq_eq_false_iff_ne]; omega
  have k5 : (h.kind == 5) = false := by rw [beq_eq_false_iff_ne]; omega
  have k6 : (h.kind == 6) = false := by rw [beq_eq_false_iff_ne]; omega
  have k7 : (h.kind == 7) = false := by rw [beq_eq_false_iff_ne]; omega
  have k8 : (h.kind == 8) = true := by rw [beq_iff_eq]; omega
  have kn1 : (h.kind != 1) = true := by simp [hk]
  have kg3 : decide ((3 : Int) < h.kind) = true := by simp [hk]
  obtain ⟨g, off, hka, hF'⟩ := foAt_addr hE.kids
  have hbx : Below w.heap.size w (w.alloc (.cells #[.int .i64 h.kind, .int .i64 h.num, .string (bs h.text), .slice ka n c, .int .i64 h.pl] 24)) := (Below.refl _ _).alloc (Nat.le_refl _) _
  have HB : Hid (Below w.heap.size w (w.alloc (.cells #[.int .i64 h.kind, .int .i64 h.num, .string (bs h.text), .slice ka n c, .int .i64 h.pl] 24)) ∧ (w.alloc (.cells #[.int .i64 h.kind, .int .i64 h.num, .string (bs h.text), .slice ka n c, .int .i64 h.pl] 24)).heap[w.heap.size]? = some (.cells #[.int .i64 h.kind, .int .i64 h.num, .string (bs h.text), .slice ka n c, .int .i64 h.pl] 24 (0, 0))) := ⟨hbx, heap_alloc_new w _⟩
  clear hk IH0
  cases hX : hdRight h n with
  | false =>
    rw [hX] at hR
    have hw : ((h.num != 0) = true ∨ ((h.num != 0) = false ∧ (((bs h.text).toList == []) = false ∨ (((bs h.text).toList == []) = true ∧ (decide ((n : Int) < 1) = true ∨ (decide ((n : Int) < 1) = false ∧ decide ((8 : Int) < (n : Int)) = true)))))) := by
      revert hR
      cases (h.num != 0) <;> cases ((bs h.text).toList == []) <;> cases decide ((n : Int) < 1) <;> cases decide ((8 : Int) < (n : Int)) <;> simp
    clear hX hR IH hE hF' hbx hka
    rw [Bool.false_and]
    rcases hw with q0 | ⟨q0, q1 | ⟨q1, q2 | ⟨q2, q3⟩⟩⟩ <;> (
      go_enter Tryz.func13, Tryz.ntmps13
      go_wp2
      go_ret
      exact ⟨rfl, HB.out.1⟩)
  | true =>
    rw [hX] at hR
    have hw : (h.num != 0) = false ∧ ((bs h.text).toList == []) = true ∧ decide ((n : Int) < 1) = false ∧ decide ((8 : Int) < (n : Int)) = false := by
      revert hR
      cases (h.num != 0) <;> cases ((bs h.text).toList == []) <;> cases decide ((n : Int) < 1) <;> cases decide ((8 : Int) < (n : Int)) <;> simp
    obtain ⟨q0, q1, q2, q3⟩ := hw
    rw [Bool.true_and]
    generalize hD : rgtF (32 - d) F = D
    have HF2 : Hid (FoAt o S (w.alloc (.cells #[.int .i64 h.kind, .int .i64 h.num, .string (bs h.text), .slice ka n c, .int .i64 h.pl] 24)) F (some ⟨g, off + 0 * 5, none⟩) (n - 0) ∧ szF F ≤ N ∧ rgtF (32 - d) F = D ∧ Below w.heap.size w (w.alloc (.cells #[.int .i64 h.kind, .int .i64 h.num, .string (bs h.text), .slice ka n c, .int .i64 h.pl] 24)) ∧ (w.alloc (.cells #[.int .i64 h.kind, .int .i64 h.num, .string (bs h.text), .slice ka n c, .int .i64 h.pl] 24)).heap[w.heap.size]? = some (.cells #[.int .i64 h.kind, .int .i64 h.num, .string (bs h.text), .slice ka n c, .int .i64 h.pl] 24 (0, 0))) := ⟨hF'.below hbx, hN, hD, HB.out⟩
    clear hX hR hE hF' hbx hN hD HB
    go_enter Tryz.func13, Tryz.ntmps13
    go_wp2_with fail
    go_loopg [9] n (fun k iv wr => ∃ (F' : Fo) (i : Nat), iv = .int .i64 (i : Int) ∧ i + k = n ∧ Hid (FoAt o S wr F' (some ⟨g, off + i * 5, none⟩) (n - i) ∧ szF F' ≤ N ∧ rgtF (32 - d) F' = D ∧ Below w.heap.size w wr ∧ wr.heap[w.heap.size]? = some (.cells #[.int .i64 h.kind, .int .i64 h.num, .string (bs h.text), .slice ka n c, .int .i64 h.pl] 24 (0, 0))))
    case atStart => exact ⟨F, 0, rfl, by omega, HF2.out⟩
    case round =>
      clear HF2
      obtain ⟨F', i, rfl, hik, HT⟩ := hrel
      obtain ⟨v1, v2, v3, v4, v5⟩ := HT.out
      have bk := blk (i := 3) v5 rfl
      by_cases hi : i < n
      · have hdi : decide ((i : Int) < (n : Int)) = true := by simp; omega
        obtain ⟨b1, o1, h1, k1, r1, ka1, kc1, kk1, rfl, -, hok1, hkc1, ⟨c0, c1, c2, c3, c4⟩, hk1, hr1⟩ := foAt_head v1 hi
        have hka2 := hka (by omega)
        subst hka2
        have HR : Hid (FoAt o S wr r1 (some ⟨g, off + (i + 1) * 5, none⟩) (n - (i + 1)) ∧ szF r1 ≤ N ∧ (rgtE (d + 1) (h1, k1) && rgtF (32 - d) r1) = D ∧ Below w.heap.size w wr ∧ wr.heap[w.heap.size]? = some (.cells #[.int .i64 h.kind, .int .i64 h.num, .string (bs h.text), .slice (some ⟨g, off, none⟩) n c, .int .i64 h.pl] 24 (0, 0))) := by
          simp only [szF] at v2
          rw [rgtF_cons hd] at v3
          exact ⟨hr1, by omega, v3, v4, v5⟩
        have HKx : Hid (Calls Tryz.prog 13 #[.agg #[.int .i64 h1.kind, .int .i64 h1.num, .string (bs h1.text), .slice ka1 kc1 kk1, .int .i64 h1.pl], .int .i64 ((d : Int) + 1)] wr fun e' w' => e' = .returned (.bool (rgtE (d + 1) (h1, k1))) ∧ Below wr.heap.size wr w') := by
          simp only [szF] at v2
          exact IH.out (h1, k1) ka1 kc1 kk1 wr ⟨hok1, hkc1, hk1⟩ (by show szF k1 < N; omega)
        clear HT hk1 hr1 hok1 hkc1 v1 v2 v3 v4 v5
        cases hk : rgtE (d + 1) (h1, k1) with
        | true =>
          rw [hk] at HKx HR
          clear hk
          go_wp2_with fail
          refine HKx.out.mono ?_
          rintro e' w3 ⟨rfl, hb3⟩
          have HN : Hid (FoAt o S w3 r1 (some ⟨g, off + (i + 1) * 5, none⟩) (n - (i + 1)) ∧ szF r1 ≤ N ∧ rgtF (32 - d) r1 = D ∧ Below w.heap.size w w3 ∧ w3.heap[w.heap.size]? = some (.cells #[.int .i64 h.kind, .int .i64 h.num, .string (bs h.text), .slice (some ⟨g, off, none⟩) n c, .int .i64 h.pl] 24 (0, 0))) := by
            obtain ⟨a1, a2, a3, a4, a5⟩ := HR.out
            exact ⟨a1.below hb3, a2, by simpa using a3, a4.trans (hb3.mono a4.size), by rw [hb3.block _ (lt_block a5)]; exact a5⟩
          clear hb3 HR HKx bk c0 c1 c2 c3 c4
          go_wp2_with fail
          go_roundg (gk - 1)
          case measure => omega
          case rel => exact ⟨r1, i + 1, by go_num, by omega, HN.out⟩
        | false =>
          rw [hk] at HKx HR
          clear hk
          go_wp2_with fail
          refine HKx.out.mono ?_
          rintro e' w3 ⟨rfl, hb3⟩
          have HN : Hid (D = false ∧ Below w.heap.size w w3) := by
            obtain ⟨_, _, a3, a4, _⟩ := HR.out
            exact ⟨by simpa using a3.symm, a4.trans (hb3.mono a4.size)⟩
          clear hb3 HR HKx bk c0 c1 c2 c3 c4
          go_wp2
          go_ret
          exact ⟨ret_bool HN.out.1.symm, HN.out.2⟩
      · have hdi : decide ((i : Int) < (n : Int)) = false := by simp; omega
        have HX : Hid (D = true ∧ Below w.heap.size w wr) := by
          rw [show n - i = 0 by omega] at v1
          rw [foAt_end v1] at v3
          exact ⟨v3.symm.trans rfl, v4⟩
        clear HT v1 v2 v3 v4 v5
        go_wp2
        go_ret
        exact ⟨ret_bool HX.out.1.symm, HX.out.2⟩

set_option maxRecDepth 20000 in
set_option maxHeartbeats 8000000 in
theorem rE_9 {o : Bool} {S : Nat → Prop} (N d : Nat) (hd : d ≤ 32) (IH0 : ∀ (e : Ex) (ka : Option Addr) (kn kc : Nat) (w : World), ExAt o S w e ka kn → szF e.2 < N → Calls Tryz.prog 13 #[.agg #[.int .i64 e.1.kind, .int .i64 e.1.num, .string (bs e.1.text), .slice ka kn kc, .int .i64 e.1.pl], .int .i64 ((d : Int) + 1)] w fun e' w' => e' = .returned (.bool (rgtE (d + 1) e)) ∧ Below w.heap.size w w')
    (h : Hd) (F : Fo) (ka : Option Addr) (n c : Nat) (w : World) (hE : ExAt o S w (h, F) ka n) (hN : szF F ≤ N) (hk : h.kind = 9) :
    Calls Tryz.prog 13 #[.agg #[.int .i64 h.kind, .int .i64 h.num, .string (bs h.text), .slice ka n c, .int .i64 h.pl], .int .i64 (d : Int)] w fun e' w' => e' = .returned (.bool (hdRight h n && rgtF (32 - d) F)) ∧ Below w.heap.size w w' := by
  have IH : Hid (∀ (e : Ex) (ka : Option Addr) (kn kc : Nat) (w : World), ExAt o S w e ka kn → szF e.2 < N → Calls Tryz.prog 13 #[.agg #[.int .i64 e.1.kind, .int .i64 e.1.num, .string (bs e.1.text), .slice ka kn kc, .int .i64 e.1.pl], .int .i64 ((d : Int) + 1)] w fun e' w' => e' = .returned (.bool (rgtE (d + 1) e)) ∧ Below w.heap.size w w') := IH0
  have hR : hdRight h n = (!(h.num != 0) && (((bs h.text).toList == []) && (!decide ((n : Int) < 1) && !decide ((8 : Int) < (n : Int))))) := by
    have e1 : ((bs h.text).toList == []) = decide (h.text = []) := emptyT _
    rw [e1, Bool.eq_iff_iff]
    unfold hdRight
    rw [hk]
    simp <;> omega
  have hn2 := hE.few
  unfold maxLen at hn2
  have hdd : decide ((32 : Int) < (d : Int)) = false := by simp; omega
  have k1 : (h.kind == 1) = false := by rw [beq_eq_false_iff_ne]; omega
  have k2 : (h.kind == 2) = false := by rw [beq_eq_false_iff_ne]; omega
  have k3 : (h.kind == 3) = false := by rw [beq_eq_false_iff_ne]; omega
  have k4 : (h.kind == 4) = false := by rw [beq_eq_false_iff_ne]; omega
  have k5 : (h.kind == 5) = false := by rw [beq_eq_false_iff_ne]; omega
  have k6 : (h.kind == 6) = false := by rw [beq_eq_false_iff_ne]; omega
  have k7 : (h.kind == 7) = false := by rw [beq_eq_false_iff_ne]; omega
  have k8 : (h.kind == 8) = false := by rw [beq_eq_false_iff_ne]; omega
  have k9 : (h.kind == 9) = true := by rw [beq_iff_eq]; omega
  have kn1 : (h.kind != 1) = true := by simp [hk]
  have kg3 : decide ((3 : Int) < h.kind) = true := by simp [hk]
  obtain ⟨g, off, hka, hF'⟩ := foAt_addr hE.kids
  have hbx : Below w.heap.size w (w.alloc (.cells #[.int .i64 h.kind, .int .i64 h.num, .string (bs h.text), .slice ka n c, .int .i64 h.pl] 24)) := (Below.refl _ _).alloc (Nat.le_refl _) _
  have HB : Hid (Below w.heap.size w (w.alloc (.cells #[.int .i64 h.kind, .int .i64 h.num, .string (bs h.text), .slice ka n c, .int .i64 h.pl] 24)) ∧ (w.alloc (.cells #[.int .i64 h.kind, .int .i64 h.num, .string (bs h.text), .slice ka n c, .int .i64 h.pl] 24)).heap[w.heap.size]? = some (.cells #[.int .i64 h.kind, .int .i64 h.num, .string (bs h.text), .slice ka n c, .int .i64 h.pl] 24 (0, 0))) := ⟨hbx, heap_alloc_new w _⟩
  clear hk IH0
  cases hX : hdRight h n with
  | false =>
    rw [hX] at hR
    have hw : ((h.num != 0) = true ∨ ((h.num != 0) = false ∧ (((bs h.text).toList == []) = false ∨ (((bs h.text).toList == []) = true ∧ (decide ((n : Int) < 1) = true ∨ (decide ((n : Int) < 1) = false ∧ decide ((8 : Int) < (n : Int)) = true)))))) := by
      revert hR
      cases (h.num != 0) <;> cases ((bs h.text).toList == []) <;> cases decide ((n : Int) < 1) <;> cases decide ((8 : Int) < (n : Int)) <;> simp
    clear hX hR IH hE hF' hbx hka
    rw [Bool.false_and]
    rcases hw with q0 | ⟨q0, q1 | ⟨q1, q2 | ⟨q2, q3⟩⟩⟩ <;> (
      go_enter Tryz.func13, Tryz.ntmps13
      go_wp2
      go_ret
      exact ⟨rfl, HB.out.1⟩)
  | true =>
    rw [hX] at hR
    have hw : (h.num != 0) = false ∧ ((bs h.text).toList == []) = true ∧ decide ((n : Int) < 1) = false ∧ decide ((8 : Int) < (n : Int)) = false := by
      revert hR
      cases (h.num != 0) <;> cases ((bs h.text).toList == []) <;> cases decide ((n : Int) < 1) <;> cases decide ((8 : Int) < (n : Int)) <;> simp
    obtain ⟨q0, q1, q2, q3⟩ := hw
    rw [Bool.true_and]
    generalize hD : rgtF (32 - d) F = D
    have HF2 : Hid (FoAt o S (w.alloc (.cells #[.int .i64 h.kind, .int .i64 h.num, .string (bs h.text), .slice ka n c, .int .i64 h.pl] 24)) F (some ⟨g, off + 0 * 5, none⟩) (n - 0) ∧ szF F ≤ N ∧ rgtF (32 - d) F = D ∧ Below w.heap.size w (w.alloc (.cells #[.int .i64 h.kind, .int .i64 h.num, .string (bs h.text), .slice ka n c, .int .i64 h.pl] 24)) ∧ (w.alloc (.cells #[.int .i64 h.kind, .int .i64 h.num, .string (bs h.text), .slice ka n c, .int .i64 h.pl] 24)).heap[w.heap.size]? = some (.cells #[.int .i64 h.kind, .int .i64 h.num, .string (bs h.text), .slice ka n c, .int .i64 h.pl] 24 (0, 0))) := ⟨hF'.below hbx, hN, hD, HB.out⟩
    clear hX hR hE hF' hbx hN hD HB
    go_enter Tryz.func13, Tryz.ntmps13
    go_wp2_with fail
    go_loopg [9] n (fun k iv wr => ∃ (F' : Fo) (i : Nat), iv = .int .i64 (i : Int) ∧ i + k = n ∧ Hid (FoAt o S wr F' (some ⟨g, off + i * 5, none⟩) (n - i) ∧ szF F' ≤ N ∧ rgtF (32 - d) F' = D ∧ Below w.heap.size w wr ∧ wr.heap[w.heap.size]? = some (.cells #[.int .i64 h.kind, .int .i64 h.num, .string (bs h.text), .slice ka n c, .int .i64 h.pl] 24 (0, 0))))
    case atStart => exact ⟨F, 0, rfl, by omega, HF2.out⟩
    case round =>
      clear HF2
      obtain ⟨F', i, rfl, hik, HT⟩ := hrel
      obtain ⟨v1, v2, v3, v4, v5⟩ := HT.out
      have bk := blk (i := 3) v5 rfl
      by_cases hi : i < n
      · have hdi : decide ((i : Int) < (n : Int)) = true := by simp; omega
        obtain ⟨b1, o1, h1, k1, r1, ka1, kc1, kk1, rfl, -, hok1, hkc1, ⟨c0, c1, c2, c3, c4⟩, hk1, hr1⟩ := foAt_head v1 hi
        have hka2 := hka (by omega)
        subst hka2
        have HR : Hid (FoAt o S wr r1 (some ⟨g, off + (i + 1) * 5, none⟩) (n - (i + 1)) ∧ szF r1 ≤ N ∧ (rgtE (d + 1) (h1, k1) && rgtF (32 - d) r1) = D ∧ Below w.heap.size w wr ∧ wr.heap[w.heap.size]? = some (.cells #[.int .i64 h.kind, .int .i64 h.num, .string (bs h.text), .slice (some ⟨g, off, none⟩) n c, .int .i64 h.pl] 24 (0, 0))) := by
          simp only [szF] at v2
          rw [rgtF_cons hd] at v3
          exact ⟨hr1, by omega, v3, v4, v5⟩
        have HKx : Hid (Calls Tryz.prog 13 #[.agg #[.int .i64 h1.kind, .int .i64 h1.num, .string (bs h1.text), .slice ka1 kc1 kk1, .int .i64 h1.pl], .int .i64 ((d : Int) + 1)] wr fun e' w' => e' = .returned (.bool (rgtE (d + 1) (h1, k1))) ∧ Below wr.heap.size wr w') := by
          simp only [szF] at v2
          exact IH.out (h1, k1) ka1 kc1 kk1 wr ⟨hok1, hkc1, hk1⟩ (by show szF k1 < N; omega)
        clear HT hk1 hr1 hok1 hkc1 v1 v2 v3 v4 v5
        cases hk : rgtE (d + 1) (h1, k1) with
        | true =>
          rw [hk] at HKx HR
          clear hk
          go_wp2_with fail
          refine HKx.out.mono ?_
          rintro e' w3 ⟨rfl, hb3⟩
          have HN : Hid (FoAt o S w3 r1 (some ⟨g, off + (i + 1) * 5, none⟩) (n - (i + 1)) ∧ szF r1 ≤ N ∧ rgtF (32 - d) r1 = D ∧ Below w.heap.size w w3 ∧ w3.heap[w.heap.size]? = some (.cells #[.int .i64 h.kind, .int .i64 h.num, .string (bs h.text), .slice (some ⟨g, off, none⟩) n c, .int .i64 h.pl] 24 (0, 0))) := by
            obtain ⟨a1, a2, a3, a4, a5⟩ := HR.out
            exact ⟨a1.below hb3, a2, by simpa using a3, a4.trans (hb3.mono a4.size), by rw [hb3.block _ (lt_block a5)]; exact a5⟩
          clear hb3 HR HKx bk c0 c1 c2 c3 c4
          go_wp2_with fail
          go_roundg (gk - 1)
          case measure => omega
          case rel => exact ⟨r1, i + 1, by go_num, by omega, HN.out⟩
        | false =>
          rw [hk] at HKx HR
          clear hk
          go_wp2_with fail
          refine HKx.out.mono ?_
          rintro e' w3 ⟨rfl, hb3⟩
          have HN : Hid (D = false ∧ Below w.heap.size w w3) := by
            obtain ⟨_, _, a3, a4, _⟩ := HR.out
            exact ⟨by simpa using a3.symm, a4.trans (hb3.mono a4.size)⟩
          clear hb3 HR HKx bk c0 c1 c2 c3 c4
          go_wp2
          go_ret
          exact ⟨ret_bool HN.out.1.symm, HN.out.2⟩
      · have hdi : decide ((i : Int) < (n : Int)) = false := by simp; omega
        have HX : Hid (D = true ∧ Below w.heap.size w wr) := by
          rw [show n - i = 0 by omega] at v1
          rw [foAt_end v1] at v3
          exact ⟨v3.symm.trans rfl, v4⟩
        clear HT v1 v2 v3 v4 v5
        go_wp2
        go_ret
        exact ⟨ret_bool HX.out.1.symm, HX.out.2⟩

end Go.Proofs.YtpeldiibjhffiaaGreatDoor
namespace Go.Proofs.YtpeldiibjhffiaaGreatDoor
open Go.RowKit Go.Deep

set_option maxRecDepth 20000 in
set_option maxHeartbeats 8000000 in
theorem rE_2 {o : Bool} {S : Nat → Prop} (N d : Nat) (hd : d ≤ 32) (IH0 : ∀ (e : Ex) (ka : Option Addr) (kn kc : Nat) (w : World), ExAt o S w e ka kn → szF e.2 < N → Calls Tryz.prog 13 #[.agg #[.int .i64 e.1.kind, .int .i64 e.1.num, .string (bs e.1.text), .slice ka kn kc, .int .i64 e.1.pl], .int .i64 ((d : Int) + 1)] w fun e' w' => e' = .returned (.bool (rgtE (d + 1) e)) ∧ Below w.heap.size w w')
    (h : Hd) (F : Fo) (ka : Option Addr) (n c : Nat) (w : World) (hE : ExAt o S w (h, F) ka n) (hN : szF F ≤ N) (hk : h.kind = 2) :
    Calls Tryz.prog 13 #[.agg #[.int .i64 h.kind, .int .i64 h.num, .string (bs h.text), .slice ka n c, .int .i64 h.pl], .int .i64 (d : Int)] w fun e' w' => e' = .returned (.bool (hdRight h n && rgtF (32 - d) F)) ∧ Below w.heap.size w w' := by
  have IH : Hid (∀ (e : Ex) (ka : Option Addr) (kn kc : Nat) (w : World), ExAt o S w e ka kn → szF e.2 < N → Calls Tryz.prog 13 #[.agg #[.int .i64 e.1.kind, .int .i64 e.1.num, .string (bs e.1.text), .slice ka kn kc, .int .i64 e.1.pl], .int .i64 ((d : Int) + 1)] w fun e' w' => e' = .returned (.bool (rgtE (d + 1) e)) ∧ Below w.heap.size w w') := IH0
  have hR : hdRight h n = (nameB h.text && (!(h.num != 0) && (!decide ((n : Int) < 0) && !decide ((0 : Int) < (n : Int))))) := by
    have e1 : ((bs h.text).toList == []) = decide (h.text = []) := emptyT _
    rw [Bool.eq_iff_iff]
    unfold hdRight
    rw [hk]
    simp <;> (constructor <;> (rintro ⟨a, b, c⟩; exact ⟨b, a, by omega⟩))
  have HN : Hid (∀ W, Calls Tryz.prog 27 #[.string (bs h.text)] W fun e w' => e = .returned (.bool (nameB h.text)) ∧ Below W.heap.size W w') := fun W => by
    have := refName_calls (bs h.text) W
    rw [bs_list] at this
    exact this
  have hn2 := hE.few
  unfold maxLen at hn2
  have hdd : decide ((32 : Int) < (d : Int)) = false := by simp; omega
  have k1 : (h.kind == 1) = false := by rw [beq_eq_false_iff_ne]; omega
  have k2 : (h.kind == 2) = true := by rw [beq_iff_eq]; omega
  have kn1 : (h.kind != 1) = true := by simp [hk]
  have kg3 : decide ((3 : Int) < h.kind) = false := by simp [hk]
  obtain ⟨g, off, hka, hF'⟩ := foAt_addr hE.kids
  have hbx : Below w.heap.size w (w.alloc (.cells #[.int .i64 h.kind, .int .i64 h.num, .string (bs h.text), .slice ka n c, .int .i64 h.pl] 24)) := (Below.refl _ _).alloc (Nat.le_refl _) _
  have HB : Hid (Below w.heap.size w (w.alloc (.cells #[.int .i64 h.kind, .int .i64 h.num, .string (bs h.text), .slice ka n c, .int .i64 h.pl] 24)) ∧ (w.alloc (.cells #[.int .i64 h.kind, .int .i64 h.num, .string (bs h.text), .slice ka n c, .int .i64 h.pl] 24)).heap[w.heap.size]? = some (.cells #[.int .i64 h.kind, .int .i64 h.num, .string (bs h.text), .slice ka n c, .int .i64 h.pl] 24 (0, 0))) := ⟨hbx, heap_alloc_new w _⟩
  clear hk IH0
  cases hv : nameB h.text with
  | false =>
    rw [hv] at HN hR
    rw [hR]
    clear hR IH hE hF' hbx hka hv
    go_enter Tryz.func13, Tryz.ntmps13
    go_wp2_with fail
    refine (HN.out _).mono ?_
    rintro e' w2 ⟨rfl, hb2⟩
    have HB2 : Hid (Below w.heap.size w w2) := HB.out.1.trans (hb2.mono HB.out.1.size)
    clear hb2 HB HN
    go_wp2
    go_ret
    exact ⟨ret_bool (by simp), HB2.out⟩
  | true =>
    rw [hv] at HN hR
    clear hv
    cases hX : hdRight h n with
    | false =>
      rw [hX] at hR
      have hw : ((h.num != 0) = true ∨ ((h.num != 0) = false ∧ (decide ((n : Int) < 0) = true ∨ (decide ((n : Int) < 0) = false ∧ decide ((0 : Int) < (n : Int)) = true)))) := by
        revert hR
        cases (h.num != 0) <;> cases decide ((n : Int) < 0) <;> cases decide ((0 : Int) < (n : Int)) <;> simp
      clear hX hR IH hE hF' hbx hka
      rw [Bool.false_and]
      rcases hw with q0 | ⟨q0, q1 | ⟨q1, q2⟩⟩ <;> (
        try (have qz : 0 < n := by simp at q2; omega)
        go_enter Tryz.func13, Tryz.ntmps13
        go_wp2_with fail
        refine (HN.out _).mono ?_
        rintro e' w2 ⟨rfl, hb2⟩
        have hk3 : w2.heap[w.heap.size]? = some (.cells #[.int .i64 h.kind, .int .i64 h.num, .string (bs h.text), .slice ka n c, .int .i64 h.pl] 24 (0, 0)) := by rw [hb2.block _ (lt_block HB.out.2)]; exact HB.out.2
        have z0 := blk (i := 0) hk3 rfl
        have z1 := blk (i := 1) hk3 rfl
        have z2 := blk (i := 2) hk3 rfl
        have z3 := blk (i := 3) hk3 rfl
        have HB2 : Hid (Below w.heap.size w w2) := HB.out.1.trans (hb2.mono HB.out.1.size)
        clear hb2 HB HN hk3
        go_wp2
        go_ret
        exact ⟨rfl, HB2.out⟩)
    | true =>
      rw [hX] at hR
      have hw : (h.num != 0) = false ∧ decide ((n : Int) < 0) = false ∧ decide ((0 : Int) < (n : Int)) = false := by
        revert hR
        cases (h.num != 0) <;> cases decide ((n : Int) < 0) <;> cases decide ((0 : Int) < (n : Int)) <;> simp
      obtain ⟨q0, q1, q2⟩ := hw
      rw [Bool.true_and]
      generalize hD : rgtF (32 - d) F = D
      have HF1 : Hid (FoAt o S (w.alloc (.cells #[.int .i64 h.kind, .int .i64 h.num, .string (bs h.text), .slice ka n c, .int .i64 h.pl] 24)) F (some ⟨g, off + 0 * 5, none⟩) (n - 0) ∧ szF F ≤ N ∧ rgtF (32 - d) F = D ∧ Below w.heap.size w (w.alloc (.cells #[.int .i64 h.kind, .int .i64 h.num, .string (bs h.text), .slice ka n c, .int .i64 h.pl] 24)) ∧ (w.alloc (.cells #[.int .i64 h.kind, .int .i64 h.num, .string (bs h.text), .slice ka n c, .int .i64 h.pl] 24)).heap[w.heap.size]? = some (.cells #[.int .i64 h.kind, .int .i64 h.num, .string (bs h.text), .slice ka n c, .int .i64 h.pl] 24 (0, 0))) := ⟨hF'.below hbx, hN, hD, HB.out⟩
      clear hX hR hE hF' hbx hN hD HB
      have qz : ¬ 0 < n := by simp at q2; omega
      go_enter Tryz.func13, Tryz.ntmps13
      go_wp2_with fail
      refine (HN.out _).mono ?_
      rintro e' w2 ⟨rfl, hb2⟩
      have HF2 : Hid (FoAt o S w2 F (some ⟨g, off + 0 * 5, none⟩) (n - 0) ∧ szF F ≤ N ∧ rgtF (32 - d) F = D ∧ Below w.heap.size w w2 ∧ w2.heap[w.heap.size]? = some (.cells #[.int .i64 h.kind, .int .i64 h.num, .string (bs h.text), .slice ka n c, .int .i64 h.pl] 24 (0, 0))) := by
        obtain ⟨a1, a2, a3, a4, a5⟩ := HF1.out
        exact ⟨a1.below hb2, a2, a3, a4.trans (hb2.mono a4.size), by rw [hb2.block _ (lt_block a5)]; exact a5⟩
      have z0 := blk (i := 0) HF2.out.2.2.2.2 rfl
      have z1 := blk (i := 1) HF2.out.2.2.2.2 rfl
      have z2 := blk (i := 2) HF2.out.2.2.2.2 rfl
      have z3 := blk (i := 3) HF2.out.2.2.2.2 rfl
      clear hb2 HF1 HN
      go_wp2_with fail
      clear z0 z1 z2 z3
      go_loopg [9] n (fun k iv wr => ∃ (F' : Fo) (i : Nat), iv = .int .i64 (i : Int) ∧ i + k = n ∧ Hid (FoAt o S wr F' (some ⟨g, off + i * 5, none⟩) (n - i) ∧ szF F' ≤ N ∧ rgtF (32 - d) F' = D ∧ Below w.heap.size w wr ∧ wr.heap[w.heap.size]? = some (.cells #[.int .i64 h.kind, .int .i64 h.num, .string (bs h.text), .slice ka n c, .int .i64 h.pl] 24 (0, 0))))
      case atStart => exact ⟨F, 0, rfl, by omega, HF2.out⟩
      case round =>
        clear HF2
        obtain ⟨F', i, rfl, hik, HT⟩ := hrel
        obtain ⟨v1, v2, v3, v4, v5⟩ := HT.out
        have bk := blk (i := 3) v5 rfl
        by_cases hi : i < n
        · exact absurd (Nat.lt_of_le_of_lt (Nat.zero_le _) hi) qz
        · have hdi : decide ((i : Int) < (n : Int)) = false := by simp; omega
          have HX : Hid (D = true ∧ Below w.heap.size w wr) := by
            rw [show n - i = 0 by omega] at v1
            rw [foAt_end v1] at v3
            exact ⟨v3.symm.trans rfl, v4⟩
          clear HT v1 v2 v3 v4 v5
          go_wp2
          go_ret
          exact ⟨ret_bool HX.out.1.symm, HX.out.2⟩

set_option maxRecDepth 20000 in
set_option maxHeartbeats 8000000 in
theorem rE_3 {o : Bool} {S : Nat → Prop} (N d : Nat) (hd : d ≤ 32) (IH0 : ∀ (e : Ex) (ka : Option Addr) (kn kc : Nat) (w : World), ExAt o S w e ka kn → szF e.2 < N → Calls Tryz.prog 13 #[.agg #[.int .i64 e.1.kind, .int .i64 e.1.num, .string (bs e.1.text), .slice ka kn kc, .int .i64 e.1.pl], .int .i64 ((d : Int) + 1)] w fun e' w' => e' = .returned (.bool (rgtE (d + 1) e)) ∧ Below w.heap.size w w')
    (h : Hd) (F : Fo) (ka : Option Addr) (n c : Nat) (w : World) (hE : ExAt o S w (h, F) ka n) (hN : szF F ≤ N) (hk : h.kind = 3) :
    Calls Tryz.prog 13 #[.agg #[.int .i64 h.kind, .int .i64 h.num, .string (bs h.text), .slice ka n c, .int .i64 h.pl], .int .i64 (d : Int)] w fun e' w' => e' = .returned (.bool (hdRight h n && rgtF (32 - d) F)) ∧ Below w.heap.size w w' := by
  have IH : Hid (∀ (e : Ex) (ka : Option Addr) (kn kc : Nat) (w : World), ExAt o S w e ka kn → szF e.2 < N → Calls Tryz.prog 13 #[.agg #[.int .i64 e.1.kind, .int .i64 e.1.num, .string (bs e.1.text), .slice ka kn kc, .int .i64 e.1.pl], .int .i64 ((d : Int) + 1)] w fun e' w' => e' = .returned (.bool (rgtE (d + 1) e)) ∧ Below w.heap.size w w') := IH0
  have hR : hdRight h n = (txB h.text && (!(h.num != 0) && (!decide ((n : Int) < 0) && !decide ((0 : Int) < (n : Int))))) := by
    have e1 : ((bs h.text).toList == []) = decide (h.text = []) := emptyT _
    rw [Bool.eq_iff_iff]
    unfold hdRight
    rw [hk]
    simp <;> (constructor <;> (rintro ⟨a, b, c⟩; exact ⟨b, a, by omega⟩))
  have HN : Hid (∀ W, Calls Tryz.prog 28 #[.string (bs h.text)] W fun e w' => e = .returned (.bool (txB h.text)) ∧ Below W.heap.size W w') := fun W => by
    have := isText_big (bs h.text) W (by rw [bs_size]; have h9 := hE.hd.text; unfold maxLen at h9; exact h9)
    rw [bs_list, tx_is] at this
    exact this.mono fun e w' ⟨h1, h2⟩ => ⟨h1, by rw [h2]; exact Below.refl _ _⟩
  have hn2 := hE.few
  unfold maxLen at hn2
  have hdd : decide ((32 : Int) < (d : Int)) = false := by simp; omega
  have k1 : (h.kind == 1) = false := by rw [beq_eq_false_iff_ne]; omega
  have k2 : (h.kind == 2) = false := by rw [beq_eq_false_iff_ne]; omega
  have k3 : (h.kind == 3) = true := by rw [beq_iff_eq]; omega
  have kn1 : (h.kind != 1) = true := by simp [hk]
  have kg3 : decide ((3 : Int) < h.kind) = false := by simp [hk]
  obtain ⟨g, off, hka, hF'⟩ := foAt_addr hE.kids
  have hbx : Below w.heap.size w (w.alloc (.cells #[.int .i64 h.kind, .int .i64 h.num, .string (bs h.text), .slice ka n c, .int .i64 h.pl] 24)) := (Below.refl _ _).alloc (Nat.le_refl _) _
  have HB : Hid (Below w.heap.size w (w.alloc (.cells #[.int .i64 h.kind, .int .i64 h.num, .string (bs h.text), .slice ka n c, .int .i64 h.pl] 24)) ∧ (w.alloc (.cells #[.int .i64 h.kind, .int .i64 h.num, .string (bs h.text), .slice ka n c, .int .i64 h.pl] 24)).heap[w.heap.size]? = some (.cells #[.int .i64 h.kind, .int .i64 h.num, .string (bs h.text), .slice ka n c, .int .i64 h.pl] 24 (0, 0))) := ⟨hbx, heap_alloc_new w _⟩
  clear hk IH0
  cases hv : txB h.text with
  | false =>
    rw [hv] at HN hR
    rw [hR]
    clear hR IH hE hF' hbx hka hv
    go_enter Tryz.func13, Tryz.ntmps13
    go_wp2_with fail
    refine (HN.out _).mono ?_
    rintro e' w2 ⟨rfl, hb2⟩
    have HB2 : Hid (Below w.heap.size w w2) := HB.out.1.trans (hb2.mono HB.out.1.size)
    clear hb2 HB HN
    go_wp2
    go_ret
    exact ⟨ret_bool (by simp), HB2.out⟩
  | true =>
    rw [hv] at HN hR
    clear hv
    cases hX : hdRight h n with
    | false =>
      rw [hX] at hR
      have hw : ((h.num != 0) = true ∨ ((h.num != 0) = false ∧ (decide ((n : Int) < 0) = true ∨ (decide ((n : Int) < 0) = false ∧ decide ((0 : Int) < (n : Int)) = true)))) := by
        revert hR
        cases (h.num != 0) <;> cases decide ((n : Int) < 0) <;> cases decide ((0 : Int) < (n : Int)) <;> simp
      clear hX hR IH hE hF' hbx hka
      rw [Bool.false_and]
      rcases hw with q0 | ⟨q0, q1 | ⟨q1, q2⟩⟩ <;> (
        try (have qz : 0 < n := by simp at q2; omega)
        go_enter Tryz.func13, Tryz.ntmps13
        go_wp2_with fail
        refine (HN.out _).mono ?_
        rintro e' w2 ⟨rfl, hb2⟩
        have hk3 : w2.heap[w.heap.size]? = some (.cells #[.int .i64 h.kind, .int .i64 h.num, .string (bs h.text), .slice ka n c, .int .i64 h.pl] 24 (0, 0)) := by rw [hb2.block _ (lt_block HB.out.2)]; exact HB.out.2
        have z0 := blk (i := 0) hk3 rfl
        have z1 := blk (i := 1) hk3 rfl
        have z2 := blk (i := 2) hk3 rfl
        have z3 := blk (i := 3) hk3 rfl
        have HB2 : Hid (Below w.heap.size w w2) := HB.out.1.trans (hb2.mono HB.out.1.size)
        clear hb2 HB HN hk3
        go_wp2
        go_ret
        exact ⟨rfl, HB2.out⟩)
    | true =>
      rw [hX] at hR
      have hw : (h.num != 0) = false ∧ decide ((n : Int) < 0) = false ∧ decide ((0 : Int) < (n : Int)) = false := by
        revert hR
        cases (h.num != 0) <;> cases decide ((n : Int) < 0) <;> cases decide ((0 : Int) < (n : Int)) <;> simp
      obtain ⟨q0, q1, q2⟩ := hw
      rw [Bool.true_and]
      generalize hD : rgtF (32 - d) F = D
      have HF1 : Hid (FoAt o S (w.alloc (.cells #[.int .i64 h.kind, .int .i64 h.num, .string (bs h.text), .slice ka n c, .int .i64 h.pl] 24)) F (some ⟨g, off + 0 * 5, none⟩) (n - 0) ∧ szF F ≤ N ∧ rgtF (32 - d) F = D ∧ Below w.heap.size w (w.alloc (.cells #[.int .i64 h.kind, .int .i64 h.num, .string (bs h.text), .slice ka n c, .int .i64 h.pl] 24)) ∧ (w.alloc (.cells #[.int .i64 h.kind, .int .i64 h.num, .string (bs h.text), .slice ka n c, .int .i64 h.pl] 24)).heap[w.heap.size]? = some (.cells #[.int .i64 h.kind, .int .i64 h.num, .string (bs h.text), .slice ka n c, .int .i64 h.pl] 24 (0, 0))) := ⟨hF'.below hbx, hN, hD, HB.out⟩
      clear hX hR hE hF' hbx hN hD HB
      have qz : ¬ 0 < n := by simp at q2; omega
      go_enter Tryz.func13, Tryz.ntmps13
      go_wp2_with fail
      refine (HN.out _).mono ?_
      rintro e' w2 ⟨rfl, hb2⟩
      have HF2 : Hid (FoAt o S w2 F (some ⟨g, off + 0 * 5, none⟩) (n - 0) ∧ szF F ≤ N ∧ rgtF (32 - d) F = D ∧ Below w.heap.size w w2 ∧ w2.heap[w.heap.size]? = some (.cells #[.int .i64 h.kind, .int .i64 h.num, .string (bs h.text), .slice ka n c, .int .i64 h.pl] 24 (0, 0))) := by
        obtain ⟨a1, a2, a3, a4, a5⟩ := HF1.out
        exact ⟨a1.below hb2, a2, a3, a4.trans (hb2.mono a4.size), by rw [hb2.block _ (lt_block a5)]; exact a5⟩
      have z0 := blk (i := 0) HF2.out.2.2.2.2 rfl
      have z1 := blk (i := 1) HF2.out.2.2.2.2 rfl
      have z2 := blk (i := 2) HF2.out.2.2.2.2 rfl
      have z3 := blk (i := 3) HF2.out.2.2.2.2 rfl
      clear hb2 HF1 HN
      go_wp2_with fail
      clear z0 z1 z2 z3
      go_loopg [9] n (fun k iv wr => ∃ (F' : Fo) (i : Nat), iv = .int .i64 (i : Int) ∧ i + k = n ∧ Hid (FoAt o S wr F' (some ⟨g, off + i * 5, none⟩) (n - i) ∧ szF F' ≤ N ∧ rgtF (32 - d) F' = D ∧ Below w.heap.size w wr ∧ wr.heap[w.heap.size]? = some (.cells #[.int .i64 h.kind, .int .i64 h.num, .string (bs h.text), .slice ka n c, .int .i64 h.pl] 24 (0, 0))))
      case atStart => exact ⟨F, 0, rfl, by omega, HF2.out⟩
      case round =>
        clear HF2
        obtain ⟨F', i, rfl, hik, HT⟩ := hrel
        obtain ⟨v1, v2, v3, v4, v5⟩ := HT.out
        have bk := blk (i := 3) v5 rfl
        by_cases hi : i < n
        · exact absurd (Nat.lt_of_le_of_lt (Nat.zero_le _) hi) qz
        · have hdi : decide ((i : Int) < (n : Int)) = false := by simp; omega
          have HX : Hid (D = true ∧ Below w.heap.size w wr) := by
            rw [show n - i = 0 by omega] at v1
            rw [foAt_end v1] at v3
            exact ⟨v3.symm.trans rfl, v4⟩
          clear HT v1 v2 v3 v4 v5
          go_wp2
          go_ret
          exact ⟨ret_bool HX.out.1.symm, HX.out.2⟩

end Go.Proofs.YtpeldiibjhffiaaGreatDoor
namespace Go.Proofs.YtpeldiibjhffiaaGreatDoor
open Go.RowKit Go.Deep

set_option maxRecDepth 20000 in
set_option maxHeartbeats 8000000 in
theorem rE_none (d : Nat) (hd : d ≤ 32) (h : Hd) (ka : Option Addr) (n c : Nat) (w : World) (hk : ¬ (1 ≤ h.kind ∧ h.kind ≤ 9)) :
    Calls Tryz.prog 13 #[.agg #[.int .i64 h.kind, .int .i64 h.num, .string (bs h.text), .slice ka n c, .int .i64 h.pl], .int .i64 (d : Int)] w fun e' w' => e' = .returned (.bool false) ∧ Below w.heap.size w w' := by
  have hdd : decide ((32 : Int) < (d : Int)) = false := by simp; omega
  have k1 : (h.kind == 1) = false := by rw [beq_eq_false_iff_ne]; omega
  have k2 : (h.kind == 2) = false := by rw [beq_eq_false_iff_ne]; omega
  have k3 : (h.kind == 3) = false := by rw [beq_eq_false_iff_ne]; omega
  have k4 : (h.kind == 4) = false := by rw [beq_eq_false_iff_ne]; omega
  have k5 : (h.kind == 5) = false := by rw [beq_eq_false_iff_ne]; omega
  have k6 : (h.kind == 6) = false := by rw [beq_eq_false_iff_ne]; omega
  have k7 : (h.kind == 7) = false := by rw [beq_eq_false_iff_ne]; omega
  have k8 : (h.kind == 8) = false := by rw [beq_eq_false_iff_ne]; omega
  have k9 : (h.kind == 9) = false := by rw [beq_eq_false_iff_ne]; omega
  have HB : Hid (Below w.heap.size w (w.alloc (.cells #[.int .i64 h.kind, .int .i64 h.num, .string (bs h.text), .slice ka n c, .int .i64 h.pl] 24))) := (Below.refl _ _).alloc (Nat.le_refl _) _
  clear hk
  go_enter Tryz.func13, Tryz.ntmps13
  go_wp2
  go_ret
  exact ⟨rfl, HB.out⟩
theorem rE_deep (d : Nat) (hd : 32 < d) (h : Hd) (ka : Option Addr) (n c : Nat) (w : World) :
    Calls Tryz.prog 13 #[.agg #[.int .i64 h.kind, .int .i64 h.num, .string (bs h.text), .slice ka n c, .int .i64 h.pl], .int .i64 (d : Int)] w fun e' w' => e' = .returned (.bool false) ∧ Below w.heap.size w w' := by
  have hdd : decide ((32 : Int) < (d : Int)) = true := by simp; omega
  have HB : Hid (Below w.heap.size w (w.alloc (.cells #[.int .i64 h.kind, .int .i64 h.num, .string (bs h.text), .slice ka n c, .int .i64 h.pl] 24))) := (Below.refl _ _).alloc (Nat.le_refl _) _
  go_enter Tryz.func13, Tryz.ntmps13
  go_wp2
  go_ret
  exact ⟨rfl, HB.out⟩
theorem rightE_calls : ∀ (N : Nat) (e : Ex) (ka : Option Addr) (kn kc : Nat) (d : Nat) (w : World) (o : Bool) (S : Nat → Prop), ExAt o S w e ka kn → szF e.2 < N →
    Calls Tryz.prog 13 #[.agg #[.int .i64 e.1.kind, .int .i64 e.1.num, .string (bs e.1.text), .slice ka kn kc, .int .i64 e.1.pl], .int .i64 (d : Int)] w fun e' w' => e' = .returned (.bool (rgtE d e)) ∧ Below w.heap.size w w'
  | 0, _, _, _, _, _, _, _, _, _, h => by omega
  | N + 1, e, ka, kn, kc, d, w, o, S, hE, hN => by
    by_cases hd : d ≤ 32
    · have IH : ∀ (e : Ex) (ka : Option Addr) (kn kc : Nat) (w : World), ExAt o S w e ka kn → szF e.2 < N → Calls Tryz.prog 13 #[.agg #[.int .i64 e.1.kind, .int .i64 e.1.num, .string (bs e.1.text), .slice ka kn kc, .int .i64 e.1.pl], .int .i64 ((d : Int) + 1)] w fun e' w' => e' = .returned (.bool (rgtE (d + 1) e)) ∧ Below w.heap.size w w' := fun e ka kn kc w h1 h2 =>
        rightE_calls N e ka kn kc (d + 1) w o S h1 h2
      have hR : rgtE d e = (hdRight e.1 kn && rgtF (32 - d) e.2) := by
        unfold rgtE
        rw [decide_eq_true hd, Bool.true_and, ← foAt_len hE.kids]
      rw [hR]
      have hN2 : szF e.2 ≤ N := by omega
      by_cases h1 : e.1.kind = 1
      · exact rE_1 N d hd IH e.1 e.2 ka kn kc w hE hN2 h1
      by_cases h2 : e.1.kind = 2
      · exact rE_2 N d hd IH e.1 e.2 ka kn kc w hE hN2 h2
      by_cases h3 : e.1.kind = 3
      · exact rE_3 N d hd IH e.1 e.2 ka kn kc w hE hN2 h3
      by_cases h4 : e.1.kind = 4
      · exact rE_4 N d hd IH e.1 e.2 ka kn kc w hE hN2 h4
      by_cases h5 : e.1.kind = 5
      · exact rE_5 N d hd IH e.1 e.2 ka kn kc w hE hN2 h5
      by_cases h6 : e.1.kind = 6
      · exact rE_6 N d hd IH e.1 e.2 ka kn kc w hE hN2 h6
      by_cases h7 : e.1.kind = 7
      · exact rE_7 N d hd IH e.1 e.2 ka kn kc w hE hN2 h7
      by_cases h8 : e.1.kind = 8
      · exact rE_8 N d hd IH e.1 e.2 ka kn kc w hE hN2 h8
      by_cases h9 : e.1.kind = 9
      · exact rE_9 N d hd IH e.1 e.2 ka kn kc w hE hN2 h9
      have hz : hdRight e.1 kn = false := by
        unfold hdRight
        rw [if_neg h1, if_neg h2, if_neg h3, if_neg h4, if_neg (by omega), if_neg (by omega)]
      rw [hz]
      exact rE_none d hd e.1 ka kn kc w (by omega)
    · have hR : rgtE d e = false := by
        unfold rgtE
        rw [decide_eq_false hd, Bool.false_and]
      rw [hR]
      exact rE_deep d (by omega) e.1 ka kn kc w
end Go.Proofs.YtpeldiibjhffiaaGreatDoor
