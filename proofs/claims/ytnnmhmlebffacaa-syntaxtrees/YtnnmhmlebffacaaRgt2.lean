/-
  Right: lists of expressions.
-/
import Derived.Test.YtnnmhmlebffacaaRgt
namespace Go.Proofs.Ytnnmhmlebffacaa
open Go.RowKit Go.Deep

/-- All of a list are right, none deeper than that. -/
def rgtF : Nat → Fo → Bool
  | _, .nil => true
  | d, .node _ _ h k r => decide (d ≠ 0) && (hdRight h (lenF k) && (rgtF (d - 1) k && rgtF d r))
set_option maxRecDepth 20000 in
set_option maxHeartbeats 4000000 in
theorem rightAll_calls : ∀ (N : Nat) (F : Fo) (ao : Option Addr) (n c : Nat) (d : Nat) (w : World) (o : Bool) (S : Nat → Prop), FoAt o S w F ao n → n ≤ maxLen → d ≤ 32 → szF F < N →
    Calls Try.prog 51 #[.slice ao n c, .int .i64 (d : Int)] w fun e' w' => e' = .returned (.bool (rgtF d F)) ∧ Below w.heap.size w w'
  | 0, _, _, _, _, _, _, _, _, _, _, _, h => by omega
  | N + 1, F, ao, n, c, d, w, o, S, hF, hn, hd, hN => by
    have IH : Hid (∀ (F : Fo) (ao : Option Addr) (n c : Nat) (d : Nat) (w : World), FoAt o S w F ao n → n ≤ maxLen → d ≤ 32 → szF F < N →
      Calls Try.prog 51 #[.slice ao n c, .int .i64 (d : Int)] w fun e' w' => e' = .returned (.bool (rgtF d F)) ∧ Below w.heap.size w w') := fun F ao n c d w h1 h2 h3 h4 => rightAll_calls N F ao n c d w o S h1 h2 h3 h4
    have hn2 := hn
    unfold maxLen at hn2
    obtain ⟨g, off, hka, hF'⟩ := foAt_addr hF
    generalize hD : rgtF d F = D at *
    have H0 : Hid (FoAt o S w F (some ⟨g, off + 0 * 5, none⟩) (n - 0) ∧ szF F ≤ N ∧ rgtF d F = D) := ⟨hF', by omega, hD⟩
    clear hF hF' hD hN
    go_enter Try.func51, Try.ntmps51
    go_wp2_with fail
    go_loopg [9] n (fun k iv wr => ∃ (F' : Fo) (i : Nat), iv = .int .i64 (i : Int) ∧ i + k = n ∧ Hid (FoAt o S wr F' (some ⟨g, off + i * 5, none⟩) (n - i) ∧ szF F' ≤ N ∧ rgtF d F' = D ∧ Below w.heap.size w wr))
    case atStart => exact ⟨F, 0, rfl, by omega, H0.out.1, H0.out.2.1, H0.out.2.2, Below.refl _ _⟩
    case round =>
      clear H0
      obtain ⟨F', i, rfl, hik, HT⟩ := hrel
      by_cases hi : i < n
      · obtain ⟨b1, o1, h1, k1, r1, ka1, kc1, kk1, rfl, -, hok1, hkc1, ⟨c0, c1, c2, c3, c4⟩, hk1, hr1⟩ := foAt_head HT.out.1 hi
        have hka2 := hka (by omega)
        subst hka2
        have hbx : ∀ o', Below wr.heap.size wr (wr.alloc o') := fun o' => (Below.refl _ _).alloc (Nat.le_refl _) o'
        have HR : Hid (FoAt o S wr r1 (some ⟨g, off + (i + 1) * 5, none⟩) (n - (i + 1)) ∧ szF k1 < N ∧ szF r1 ≤ N ∧ (decide (d ≠ 0) && (hdRight h1 (lenF k1) && (rgtF (d - 1) k1 && rgtF d r1))) = D ∧ Below w.heap.size w wr) := by
          obtain ⟨_, h3, h4, h5⟩ := HT.out
          simp only [szF] at h3
          exact ⟨hr1, by omega, by omega, h4, h5⟩
        have HHd : Hid (∀ W, Calls Try.prog 78 #[.agg #[.int .i64 h1.kind, .int .i64 h1.num, .string (bs h1.text), .slice ka1 kc1 kk1, .int .i64 h1.pl]] W fun e w' => e = .returned (.bool (hdRight h1 (lenF k1))) ∧ Below W.heap.size W w') := fun W => by
          have := head_calls h1 ka1 kc1 kk1 W hkc1 hok1.text
          rw [foAt_len hk1] at this ⊢; exact this
        have HKd : Hid (0 < d → ∀ W, Below wr.heap.size wr W → Calls Try.prog 51 #[.slice ka1 kc1 kk1, .int .i64 ((d : Int) - 1)] W fun e' w' => e' = .returned (.bool (rgtF (d - 1) k1)) ∧ Below W.heap.size W w') := fun h0 W hW => by
          have := IH.out k1 ka1 kc1 kk1 (d - 1) W (hk1.below hW) hkc1 (by omega) HR.out.2.1
          rw [show ((d - 1 : Nat) : Int) = (d : Int) - 1 by omega] at this
          exact this
        have HBw : Hid (∀ o', Below w.heap.size w (wr.alloc o')) := fun o' => HR.out.2.2.2.2.trans ((hbx o').mono HR.out.2.2.2.2.size)
        have HNw : Hid ((wr.alloc (.cells #[.int .i64 h1.kind, .int .i64 h1.num, .string (bs h1.text), .slice ka1 kc1 kk1, .int .i64 h1.pl] 35)).heap[wr.heap.size]? = some (.cells #[.int .i64 h1.kind, .int .i64 h1.num, .string (bs h1.text), .slice ka1 kc1 kk1, .int .i64 h1.pl] 35 (0, 0))) := heap_alloc_new wr _
        have HBx : Hid (∀ o', Below wr.heap.size wr (wr.alloc o')) := hbx
        clear HT hk1 hr1 hok1 hkc1 IH hbx
        by_cases hd0 : d = 0
        · have q : ((d : Int) == 0) = true := by rw [beq_iff_eq]; omega
          have HX : Hid (D = false) := by show D = false; rw [← HR.out.2.2.2.1]; simp [hd0]
          clear HR HHd HKd hd0
          go_wp2
          go_ret
          exact ⟨ret_bool HX.out.symm, HBw.out _⟩
        · have q : ((d : Int) == 0) = false := by rw [beq_eq_false_iff_ne]; omega
          have HK2 := HKd.out (by omega)
          have HK3 : Hid (∀ W, Below wr.heap.size wr W → Calls Try.prog 51 #[.slice ka1 kc1 kk1, .int .i64 ((d : Int) - 1)] W fun e' w' => e' = .returned (.bool (rgtF (d - 1) k1)) ∧ Below W.heap.size W w') := HK2
          have HR' : Hid (FoAt o S wr r1 (some ⟨g, off + (i + 1) * 5, none⟩) (n - (i + 1)) ∧ szF r1 ≤ N ∧ (hdRight h1 (lenF k1) && (rgtF (d - 1) k1 && rgtF d r1)) = D ∧ Below w.heap.size w wr) := by
            obtain ⟨a1, _, a3, a4, a5⟩ := HR.out
            rw [show decide (d ≠ 0) = true by simp [hd0], Bool.true_and] at a4
            exact ⟨a1, a3, a4, a5⟩
          clear HR HKd HK2
          cases hh : hdRight h1 (lenF k1) with
          | false =>
            rw [hh] at HHd HR'
            go_wp2_with fail
            refine (HHd.out _).mono ?_
            rintro e' w3 ⟨rfl, hb3⟩
            have HX : Hid (D = false ∧ Below w.heap.size w w3) := ⟨by rw [← HR'.out.2.2.1]; simp, (HBw.out _).trans (hb3.mono (HBw.out _).size)⟩
            clear hb3 HR' HHd HBw HK3
            go_wp2
            go_ret
            exact ⟨ret_bool HX.out.1.symm, HX.out.2⟩
          | true =>
            rw [hh] at HHd HR'
            cases hk : rgtF (d - 1) k1 with
            | false =>
              rw [hk] at HK3 HR'
              go_wp2_with fail
              refine (HHd.out _).mono ?_
              rintro e' w3 ⟨rfl, hb3⟩
              have h35 : w3.heap[wr.heap.size]? = some (.cells #[.int .i64 h1.kind, .int .i64 h1.num, .string (bs h1.text), .slice ka1 kc1 kk1, .int .i64 h1.pl] 35 (0, 0)) := by rw [hb3.block _ (lt_block HNw.out)]; exact HNw.out
              have e3 := blk (i := 3) h35 rfl
              have HB3 : Hid (Below wr.heap.size wr w3 ∧ Below w.heap.size w w3) := ⟨below_box' hb3, (HBw.out _).trans (hb3.mono (HBw.out _).size)⟩
              clear hb3 h35 HHd HNw
              go_wp2_with fail
              refine (HK3.out _ HB3.out.1).mono ?_
              rintro e' w4 ⟨rfl, hb4⟩
              have HX : Hid (D = false ∧ Below w.heap.size w w4) := ⟨by rw [← HR'.out.2.2.1]; simp, HB3.out.2.trans (hb4.mono HB3.out.2.size)⟩
              clear hb4 HR' HBw HK3
              go_wp2
              go_ret
              exact ⟨ret_bool HX.out.1.symm, HX.out.2⟩
            | true =>
              rw [hk] at HK3 HR'
              go_wp2_with fail
              refine (HHd.out _).mono ?_
              rintro e' w3 ⟨rfl, hb3⟩
              have h35 : w3.heap[wr.heap.size]? = some (.cells #[.int .i64 h1.kind, .int .i64 h1.num, .string (bs h1.text), .slice ka1 kc1 kk1, .int .i64 h1.pl] 35 (0, 0)) := by rw [hb3.block _ (lt_block HNw.out)]; exact HNw.out
              have e3 := blk (i := 3) h35 rfl
              have HB3 : Hid (Below wr.heap.size wr w3 ∧ Below w.heap.size w w3) := ⟨below_box' hb3, (HBw.out _).trans (hb3.mono (HBw.out _).size)⟩
              clear hb3 h35 HHd HNw
              go_wp2_with fail
              refine (HK3.out _ HB3.out.1).mono ?_
              rintro e' w4 ⟨rfl, hb4⟩
              have HX : Hid (FoAt o S w4 r1 (some ⟨g, off + (i + 1) * 5, none⟩) (n - (i + 1)) ∧ szF r1 ≤ N ∧ rgtF d r1 = D ∧ Below w.heap.size w w4) := by
                obtain ⟨a1, a2, a3, a4⟩ := HR'.out
                have hb5 := HB3.out.1.trans (hb4.mono HB3.out.1.size)
                exact ⟨a1.below hb5, a2, by simpa using a3, a4.trans (hb5.mono a4.size)⟩
              clear hb4 HR' HBw HK3 HB3
              go_wp2_with fail
              go_roundg (gk - 1)
              case measure => omega
              case rel => exact ⟨r1, i + 1, by go_num, by omega, HX.out⟩
      · have HX : Hid (D = true ∧ Below w.heap.size w wr) := by
          obtain ⟨a1, _, a4, a5⟩ := HT.out
          rw [show n - i = 0 by omega] at a1
          rw [foAt_end a1] at a4
          exact ⟨a4.symm, a5⟩
        clear HT
        go_wp2
        go_ret
        exact ⟨ret_bool HX.out.1.symm, HX.out.2⟩
end Go.Proofs.Ytnnmhmlebffacaa
