/-
  The document's: are two states twins? The document's: a gap state that is never better than its twins.
-/
import Derived.Test.YtolehoibpnenlaaMp
import Derived.Test.YtolehoibpnenlaaPrD
import Derived.Test.YtolehoibpnenlaaMs
namespace Go.Proofs.Ytolehoibpnenlaa
open Go.RowKit Go.Deep Go.Maps

theorem third_self {vs : List Int} {l : List St} {s t : Nat} {u : Int} (h : u = s ∨ u = t) : thirdD vs l s t u = true := by
  rcases h with h | h <;> simp [thirdD, h]
theorem third_not {vs : List Int} {l : List St} {s t : Nat} {u : Int} (h1 : u ≠ s) (h2 : u ≠ t) : thirdD vs l s t u = (((edgeB l u s).isSome == (edgeB l u t).isSome) && (decide (u < 0) || leadO vs l s t u.toNat)) := by
  rw [thirdD, decide_eq_false h1, decide_eq_false h2]
  rfl
theorem lead_cost {vs : List Int} {l : List St} {s t u : Nat} : leadO vs l s t u = (((edgeB l s u).isSome == (edgeB l t u).isSome) && decide (ecV vs (edgeB l s u) = ecV vs (edgeB l t u))) := by
  rw [leadO]
  cases edgeB l s u with
  | none =>
    cases edgeB l t u with
    | none => simp [ecV]
    | some q => simp
  | some p =>
    cases edgeB l t u with
    | none => simp
    | some q =>
      rw [Bool.eq_iff_iff]
      simp only [ecV, Option.isSome_some, beq_self_eq_true, Bool.true_and]
      exact ⟨fun h => decide_eq_true (of_decide_eq_true h), fun h => decide_eq_true (of_decide_eq_true h)⟩
theorem twD_not {vs : List Int} {l : List St} {s t : Nat} (h : s = t ∨ (gapB vs l s).isSome = false ∨ (gapB vs l t).isSome = false ∨ (l.getD s (0, [])).1 ≠ (l.getD t (0, [])).1 ∨ (edgeB l t s).isSome = true ∨ (edgeB l s t).isSome = true) : twD vs l s t = false := by
  cases h2 : twD vs l s t with
  | false => rfl
  | true =>
    exfalso
    simp only [twD, Bool.and_eq_true, decide_eq_true_eq] at h2
    obtain ⟨d1, d2, d3, d4, d5, d6, _⟩ := h2
    rcases h with h | h | h | h | h | h
    · exact d1 h
    · rw [h] at d2; cases d2
    · rw [h] at d3; cases d3
    · exact h d4
    · rw [Option.isNone_iff_eq_none] at d5; rw [d5] at h; cases h
    · rw [Option.isNone_iff_eq_none] at d6; rw [d6] at h; cases h
theorem twD_all {vs : List Int} {l : List St} {s t : Nat} (h1 : s ≠ t) (h2 : (gapB vs l s).isSome = true) (h3 : (gapB vs l t).isSome = true) (h4 : (l.getD s (0, [])).1 = (l.getD t (0, [])).1) (h5 : (edgeB l t s).isSome = false) (h6 : (edgeB l s t).isSome = false) : twD vs l s t = (List.range (l.length + 1)).all fun k => thirdD vs l s t ((k : Int) - 1) := by
  have e5 : (edgeB l t s).isNone = true := by
    cases hh : edgeB l t s with
    | none => rfl
    | some e => rw [hh] at h5; cases h5
  have e6 : (edgeB l s t).isNone = true := by
    cases hh : edgeB l s t with
    | none => rfl
    | some e => rw [hh] at h6; cases h6
  rw [twD, h2, h3, e5, e6, decide_eq_true h1, decide_eq_true h4]
  simp
set_option maxRecDepth 20000 in
set_option maxHeartbeats 8000000 in
theorem twins_calls (x : Rc) (da : Option Addr) (dn dc : Nat) (sa : Option Addr) (sn sc : Nat) (ta : Option Addr) (tn tc : Nat) (va : Option Addr) (vn vc : Nat) (vs : List Int) (w : World) (h : DvAt w x da dn sa sn ta tn va vn vs) (s t : Nat) (hs : s < tn) (ht : t < tn) :
    Calls Try.prog 42 #[.agg (rcCells x da dn dc sa sn sc ta tn tc), .slice va vn vc, .int .i64 (s : Int), .int .i64 (t : Int)] w fun e w' => e = .returned (.bool (twD vs x.states s t)) ∧ Below w.heap.size w w' := by
  have htn9 : tn ≤ 9 := by rw [← h.rc.states.length]; exact h.ok.1
  have hlen := h.rc.states.length
  obtain ⟨g1, o1, hta, hcs⟩ := h.rc.states.cells (by omega)
  obtain ⟨_, _, _, ks1, _, _⟩ := hcs s _ (st_at (l := x.states) (by omega))
  obtain ⟨_, _, _, kt1, _, _⟩ := hcs t _ (st_at (l := x.states) (by omega))
  have HE : Hid (∀ W (z : Nat) (u : Int), Below w.heap.size w W → z < tn → Calls Try.prog 64 #[.agg (rcCells x da dn dc sa sn sc ta tn tc), .slice va vn vc, .int .i64 (z : Int), .int .i64 u] W fun e w' => e = .returned (.tuple #[.int .i64 (ecV vs (edgeB x.states u z)), .bool (edgeB x.states u z).isSome]) ∧ Below W.heap.size W w') := fun W z u hW hz => edgeOf_calls x da dn dc sa sn sc ta tn tc va vn vc vs W (h.below hW) z u hz
  have HGs : Hid (∀ W (z : Nat), Below w.heap.size w W → z < tn → Calls Try.prog 41 #[.agg (rcCells x da dn dc sa sn sc ta tn tc), .slice va vn vc, .int .i64 (z : Int)] W fun e w' => GapPost (gapB vs x.states z) W e w') := fun W z hW hz => gapState_calls x da dn dc sa sn sc ta tn tc va vn vc vs W (h.below hW) z hz
  have HKs : Hid (∀ W, Below w.heap.size w W → W.cell? ⟨g1, o1 + s * 2, none⟩ = some (.int .i64 (x.states.getD s (0, [])).1) ∧ W.cell? ⟨g1, o1 + t * 2, none⟩ = some (.int .i64 (x.states.getD t (0, [])).1)) := fun W hW => ⟨by rw [hW.cell (World.block_lt_of_cell? w _ ks1)]; exact ks1, by rw [hW.cell (World.block_lt_of_cell? w _ kt1)]; exact kt1⟩
  have HB0 : Hid (Rb w (rcCells x da dn dc sa sn sc ta tn tc) (w.alloc (.cells (rcCells x da dn dc sa sn sc ta tn tc) 26))) := Rb.start _ _
  obtain ⟨V, hV⟩ : ∃ V, twD vs x.states s t = V := ⟨_, rfl⟩
  have HV : Hid (twD vs x.states s t = V ∧ x.states.length = tn) := ⟨hV, hlen⟩
  rw [hV]
  have hsd : (s : Int) < (tn : Int) := by omega
  have htd : (t : Int) < (tn : Int) := by omega
  rw [hta] at HE HGs HB0 ⊢
  clear h hlen hta hcs ks1 kt1 hV
  unfold rcCells at HB0 HE HGs ⊢
  obtain ⟨A, hA⟩ : ∃ A, (gapB vs x.states s).isSome = A := ⟨_, rfl⟩
  obtain ⟨B, hB⟩ : ∃ B, (gapB vs x.states t).isSome = B := ⟨_, rfl⟩
  have HAB : Hid ((gapB vs x.states s).isSome = A ∧ (gapB vs x.states t).isSome = B) := ⟨hA, hB⟩
  obtain ⟨ks, hks⟩ : ∃ ks, (x.states.getD s (0, [])).1 = ks := ⟨_, rfl⟩
  obtain ⟨kt, hkt⟩ : ∃ kt, (x.states.getD t (0, [])).1 = kt := ⟨_, rfl⟩
  have HKK : Hid ((x.states.getD s (0, [])).1 = ks ∧ (x.states.getD t (0, [])).1 = kt) := ⟨hks, hkt⟩
  rw [hks, hkt] at HKs
  clear hA hB hks hkt
  go_enter Try.func42, Try.ntmps42
  go_wp2_with fail
  refine (HGs.out _ s HB0.out.low hs).mono ?_
  rintro e w1 ⟨a1, a2, rfl, _, hb1⟩
  have HB1 : Hid (Rb w #[.int .i64 x.letters, .slice da dn dc, .slice sa sn sc, .int .i64 x.beg, .int .i64 x.fin, .int .i64 x.front, .int .i64 x.back, .bool x.banded, .int .i64 x.lo, .int .i64 x.hi, .slice (some ⟨g1, o1, none⟩) tn tc] w1) := HB0.out.next hb1
  clear hb1 HB0
  rw [HAB.out.1]
  have c0 : w1.cell? ⟨w.heap.size, 0, none⟩ = some (.int .i64 x.letters) := blk HB1.out.box rfl
  have c1 : w1.cell? ⟨w.heap.size, 1, none⟩ = some (.slice da dn dc) := blk HB1.out.box rfl
  have c2 : w1.cell? ⟨w.heap.size, 2, none⟩ = some (.slice sa sn sc) := blk HB1.out.box rfl
  have c3 : w1.cell? ⟨w.heap.size, 3, none⟩ = some (.int .i64 x.beg) := blk HB1.out.box rfl
  have c4 : w1.cell? ⟨w.heap.size, 4, none⟩ = some (.int .i64 x.fin) := blk HB1.out.box rfl
  have c5 : w1.cell? ⟨w.heap.size, 5, none⟩ = some (.int .i64 x.front) := blk HB1.out.box rfl
  have c6 : w1.cell? ⟨w.heap.size, 6, none⟩ = some (.int .i64 x.back) := blk HB1.out.box rfl
  have c7 : w1.cell? ⟨w.heap.size, 7, none⟩ = some (.bool x.banded) := blk HB1.out.box rfl
  have c8 : w1.cell? ⟨w.heap.size, 8, none⟩ = some (.int .i64 x.lo) := blk HB1.out.box rfl
  have c9 : w1.cell? ⟨w.heap.size, 9, none⟩ = some (.int .i64 x.hi) := blk HB1.out.box rfl
  have c10 : w1.cell? ⟨w.heap.size, 10, none⟩ = some (.slice (some ⟨g1, o1, none⟩) tn tc) := blk HB1.out.box rfl
  go_wp2_with fail
  refine (HGs.out w1 t HB1.out.low ht).mono ?_
  rintro e w2 ⟨b1, b2, rfl, _, hb2⟩
  have HB2 : Hid (Rb w #[.int .i64 x.letters, .slice da dn dc, .slice sa sn sc, .int .i64 x.beg, .int .i64 x.fin, .int .i64 x.front, .int .i64 x.back, .bool x.banded, .int .i64 x.lo, .int .i64 x.hi, .slice (some ⟨g1, o1, none⟩) tn tc] w2) := HB1.out.next hb2
  clear hb2 HB1 c0 c1 c2 c3 c4 c5 c6 c7 c8 c9 c10 HGs
  rw [HAB.out.2]
  have c10 : w2.cell? ⟨w.heap.size, 10, none⟩ = some (.slice (some ⟨g1, o1, none⟩) tn tc) := blk HB2.out.box rfl
  obtain ⟨q1, q2⟩ := HKs.out w2 HB2.out.low
  by_cases hst : s = t
  · have hse : ((s : Int) == (t : Int)) = true := beq_iff_eq.2 (by omega)
    have HF : Hid (V = false) := by show _ = _; rw [← HV.out.1]; exact twD_not (.inl hst)
    clear hst
    go_wp2_with fail
    go_quiet (fail)
    go_wp2
    go_ret
    exact ⟨by rw [HF.out]; rfl, below_dn HB2.out.low nq⟩
  · have hse : ((s : Int) == (t : Int)) = false := beq_eq_false_iff_ne.2 (by omega)
    have HST : Hid (s ≠ t) := hst
    clear hst
    cases A with
    | false =>
      have HF : Hid (V = false) := by show _ = _; rw [← HV.out.1]; exact twD_not (.inr (.inl HAB.out.1))
      go_wp2_with fail
      go_quiet (fail)
      go_wp2
      go_ret
      exact ⟨by rw [HF.out]; rfl, below_dn HB2.out.low nq⟩
    | true =>
      cases B with
      | false =>
        have HF : Hid (V = false) := by show _ = _; rw [← HV.out.1]; exact twD_not (.inr (.inr (.inl HAB.out.2)))
        go_wp2_with fail
        go_quiet (fail)
        go_wp2
        go_ret
        exact ⟨by rw [HF.out]; rfl, below_dn HB2.out.low nq⟩
      | true =>
        by_cases hkk : ks = kt
        · have hke : (ks != kt) = false := by simpa using hkk
          have HKE : Hid (ks = kt) := hkk
          clear hkk
          go_wp2_with fail
          go_quiet (fail)
          go_upto_region 5 with (fail)
          obtain ⟨w3, hw3⟩ : ∃ w3, w3 = w2.drewN nq := ⟨_, rfl⟩
          rw [← hw3]
          have HB3 : Hid (Rb w #[.int .i64 x.letters, .slice da dn dc, .slice sa sn sc, .int .i64 x.beg, .int .i64 x.fin, .int .i64 x.front, .int .i64 x.back, .bool x.banded, .int .i64 x.lo, .int .i64 x.hi, .slice (some ⟨g1, o1, none⟩) tn tc] w3) := HB2.out.next (by rw [hw3]; exact below_dn (Below.refl _ _) nq)
          clear hw3 HB2 c10 q1 q2
          obtain ⟨P, hP⟩ : ∃ P, (edgeB x.states t s).isSome = P := ⟨_, rfl⟩
          obtain ⟨Q, hQ⟩ : ∃ Q, (edgeB x.states s t).isSome = Q := ⟨_, rfl⟩
          have HPQ : Hid ((edgeB x.states t s).isSome = P ∧ (edgeB x.states s t).isSome = Q) := ⟨hP, hQ⟩
          have HE1 : Hid (∀ W, Below w.heap.size w W → Calls Try.prog 64 #[.agg #[.int .i64 x.letters, .slice da dn dc, .slice sa sn sc, .int .i64 x.beg, .int .i64 x.fin, .int .i64 x.front, .int .i64 x.back, .bool x.banded, .int .i64 x.lo, .int .i64 x.hi, .slice (some ⟨g1, o1, none⟩) tn tc], .slice va vn vc, .int .i64 (s : Int), .int .i64 (t : Int)] W fun e w' => e = .returned (.tuple #[.int .i64 (ecV vs (edgeB x.states t s)), .bool P]) ∧ Below W.heap.size W w') := fun W hW => by
            have := HE.out W s t hW hs
            rw [hP] at this
            exact this
          have HE2 : Hid (∀ W, Below w.heap.size w W → Calls Try.prog 64 #[.agg #[.int .i64 x.letters, .slice da dn dc, .slice sa sn sc, .int .i64 x.beg, .int .i64 x.fin, .int .i64 x.front, .int .i64 x.back, .bool x.banded, .int .i64 x.lo, .int .i64 x.hi, .slice (some ⟨g1, o1, none⟩) tn tc], .slice va vn vc, .int .i64 (t : Int), .int .i64 (s : Int)] W fun e w' => e = .returned (.tuple #[.int .i64 (ecV vs (edgeB x.states s t)), .bool Q]) ∧ Below W.heap.size W w') := fun W hW => by
            have := HE.out W t s hW ht
            rw [hQ] at this
            exact this
          clear hP hQ
          have c0 : w3.cell? ⟨w.heap.size, 0, none⟩ = some (.int .i64 x.letters) := blk HB3.out.box rfl
          have c1 : w3.cell? ⟨w.heap.size, 1, none⟩ = some (.slice da dn dc) := blk HB3.out.box rfl
          have c2 : w3.cell? ⟨w.heap.size, 2, none⟩ = some (.slice sa sn sc) := blk HB3.out.box rfl
          have c3 : w3.cell? ⟨w.heap.size, 3, none⟩ = some (.int .i64 x.beg) := blk HB3.out.box rfl
          have c4 : w3.cell? ⟨w.heap.size, 4, none⟩ = some (.int .i64 x.fin) := blk HB3.out.box rfl
          have c5 : w3.cell? ⟨w.heap.size, 5, none⟩ = some (.int .i64 x.front) := blk HB3.out.box rfl
          have c6 : w3.cell? ⟨w.heap.size, 6, none⟩ = some (.int .i64 x.back) := blk HB3.out.box rfl
          have c7 : w3.cell? ⟨w.heap.size, 7, none⟩ = some (.bool x.banded) := blk HB3.out.box rfl
          have c8 : w3.cell? ⟨w.heap.size, 8, none⟩ = some (.int .i64 x.lo) := blk HB3.out.box rfl
          have c9 : w3.cell? ⟨w.heap.size, 9, none⟩ = some (.int .i64 x.hi) := blk HB3.out.box rfl
          have c10 : w3.cell? ⟨w.heap.size, 10, none⟩ = some (.slice (some ⟨g1, o1, none⟩) tn tc) := blk HB3.out.box rfl
          go_wp2_with fail
          refine (HE1.out w3 HB3.out.low).mono ?_
          rintro e w4 ⟨rfl, hb4⟩
          have HB4 : Hid (Rb w #[.int .i64 x.letters, .slice da dn dc, .slice sa sn sc, .int .i64 x.beg, .int .i64 x.fin, .int .i64 x.front, .int .i64 x.back, .bool x.banded, .int .i64 x.lo, .int .i64 x.hi, .slice (some ⟨g1, o1, none⟩) tn tc] w4) := HB3.out.next hb4
          clear hb4 HB3 c0 c1 c2 c3 c4 c5 c6 c7 c8 c9 c10 HE1
          have c0 : w4.cell? ⟨w.heap.size, 0, none⟩ = some (.int .i64 x.letters) := blk HB4.out.box rfl
          have c1 : w4.cell? ⟨w.heap.size, 1, none⟩ = some (.slice da dn dc) := blk HB4.out.box rfl
          have c2 : w4.cell? ⟨w.heap.size, 2, none⟩ = some (.slice sa sn sc) := blk HB4.out.box rfl
          have c3 : w4.cell? ⟨w.heap.size, 3, none⟩ = some (.int .i64 x.beg) := blk HB4.out.box rfl
          have c4 : w4.cell? ⟨w.heap.size, 4, none⟩ = some (.int .i64 x.fin) := blk HB4.out.box rfl
          have c5 : w4.cell? ⟨w.heap.size, 5, none⟩ = some (.int .i64 x.front) := blk HB4.out.box rfl
          have c6 : w4.cell? ⟨w.heap.size, 6, none⟩ = some (.int .i64 x.back) := blk HB4.out.box rfl
          have c7 : w4.cell? ⟨w.heap.size, 7, none⟩ = some (.bool x.banded) := blk HB4.out.box rfl
          have c8 : w4.cell? ⟨w.heap.size, 8, none⟩ = some (.int .i64 x.lo) := blk HB4.out.box rfl
          have c9 : w4.cell? ⟨w.heap.size, 9, none⟩ = some (.int .i64 x.hi) := blk HB4.out.box rfl
          have c10 : w4.cell? ⟨w.heap.size, 10, none⟩ = some (.slice (some ⟨g1, o1, none⟩) tn tc) := blk HB4.out.box rfl
          go_wp2_with fail
          refine (HE2.out w4 HB4.out.low).mono ?_
          rintro e w5 ⟨rfl, hb5⟩
          have HB5 : Hid (Rb w #[.int .i64 x.letters, .slice da dn dc, .slice sa sn sc, .int .i64 x.beg, .int .i64 x.fin, .int .i64 x.front, .int .i64 x.back, .bool x.banded, .int .i64 x.lo, .int .i64 x.hi, .slice (some ⟨g1, o1, none⟩) tn tc] w5) := HB4.out.next hb5
          clear hb5 HB4 c0 c1 c2 c3 c4 c5 c6 c7 c8 c9 c10 HE2
          cases P with
          | true =>
            have HF : Hid (V = false) := by show _ = _; rw [← HV.out.1]; exact twD_not (.inr (.inr (.inr (.inr (.inl HPQ.out.1)))))
            go_wp2
            go_ret
            exact ⟨by rw [HF.out]; rfl, HB5.out.low⟩
          | false =>
            cases Q with
            | true =>
              have HF : Hid (V = false) := by show _ = _; rw [← HV.out.1]; exact twD_not (.inr (.inr (.inr (.inr (.inr HPQ.out.2)))))
              go_wp2
              go_ret
              exact ⟨by rw [HF.out]; rfl, HB5.out.low⟩
            | false =>
              have HVa : Hid (V = (List.range (tn + 1)).all fun k => thirdD vs x.states s t ((k : Int) - 1)) := by
                show _ = _
                rw [← HV.out.1, twD_all HST.out HAB.out.1 HAB.out.2 (by rw [HKK.out.1, HKK.out.2]; exact HKE.out) HPQ.out.1 HPQ.out.2, HV.out.2]
              clear HAB HKK HKE HPQ
              go_wp2
              go_loopg [19, 20, 21, 22, 23, 24, 25, 26, 27] (tn + 1) (fun q uv _ _ _ _ _ _ _ _ wr => ∃ (k : Nat), k + q = tn + 1 ∧ uv = .int .i64 ((k : Int) - 1) ∧ Hid ((∀ j : Nat, j < k → thirdD vs x.states s t ((j : Int) - 1) = true) ∧ Rb w #[.int .i64 x.letters, .slice da dn dc, .slice sa sn sc, .int .i64 x.beg, .int .i64 x.fin, .int .i64 x.front, .int .i64 x.back, .bool x.banded, .int .i64 x.lo, .int .i64 x.hi, .slice (some ⟨g1, o1, none⟩) tn tc] wr))
              case atStart => exact ⟨0, by omega, rfl, fun j hj => by omega, HB5.out⟩
              case round =>
                clear HB5
                obtain ⟨k, hkq, rfl, HQ⟩ := hrel
                have c0 : wr.cell? ⟨w.heap.size, 0, none⟩ = some (.int .i64 x.letters) := blk HQ.out.2.box rfl
                have c1 : wr.cell? ⟨w.heap.size, 1, none⟩ = some (.slice da dn dc) := blk HQ.out.2.box rfl
                have c2 : wr.cell? ⟨w.heap.size, 2, none⟩ = some (.slice sa sn sc) := blk HQ.out.2.box rfl
                have c3 : wr.cell? ⟨w.heap.size, 3, none⟩ = some (.int .i64 x.beg) := blk HQ.out.2.box rfl
                have c4 : wr.cell? ⟨w.heap.size, 4, none⟩ = some (.int .i64 x.fin) := blk HQ.out.2.box rfl
                have c5 : wr.cell? ⟨w.heap.size, 5, none⟩ = some (.int .i64 x.front) := blk HQ.out.2.box rfl
                have c6 : wr.cell? ⟨w.heap.size, 6, none⟩ = some (.int .i64 x.back) := blk HQ.out.2.box rfl
                have c7 : wr.cell? ⟨w.heap.size, 7, none⟩ = some (.bool x.banded) := blk HQ.out.2.box rfl
                have c8 : wr.cell? ⟨w.heap.size, 8, none⟩ = some (.int .i64 x.lo) := blk HQ.out.2.box rfl
                have c9 : wr.cell? ⟨w.heap.size, 9, none⟩ = some (.int .i64 x.hi) := blk HQ.out.2.box rfl
                have c10 : wr.cell? ⟨w.heap.size, 10, none⟩ = some (.slice (some ⟨g1, o1, none⟩) tn tc) := blk HQ.out.2.box rfl
                by_cases hlt : k < tn + 1
                · obtain ⟨u, hu⟩ : ∃ u : Int, (k : Int) - 1 = u := ⟨_, rfl⟩
                  have hz0 : decide (u < (tn : Int)) = true := by simp; omega
                  have hzd : u < (tn : Int) := by omega
                  have hu1 : -1 ≤ u := by omega
                  have HU : Hid (u = (k : Int) - 1) := hu.symm
                  have HNext : Hid (thirdD vs x.states s t u = true → ∀ j : Nat, j < k + 1 → thirdD vs x.states s t ((j : Int) - 1) = true) := fun h3 j hj => by
                    by_cases hjk : j = k
                    · rw [hjk, hu]; exact h3
                    · exact HQ.out.1 j (by omega)
                  have HStop : Hid (thirdD vs x.states s t u = false → V = false) := fun h3 => by
                    rw [HVa.out]
                    exact all_range_no hlt (by rw [hu]; exact h3)
                  rw [hu]
                  clear hu
                  by_cases hus : u = s ∨ u = t
                  · have HN : Hid (∀ j : Nat, j < k + 1 → thirdD vs x.states s t ((j : Int) - 1) = true) := HNext.out (third_self hus)
                    by_cases h1 : u = s
                    · have he1 : (u == (s : Int)) = true := by simpa using h1
                      have HB : Hid (Rb w #[.int .i64 x.letters, .slice da dn dc, .slice sa sn sc, .int .i64 x.beg, .int .i64 x.fin, .int .i64 x.front, .int .i64 x.back, .bool x.banded, .int .i64 x.lo, .int .i64 x.hi, .slice (some ⟨g1, o1, none⟩) tn tc] wr) := HQ.out.2
                      clear hus h1 HQ HNext HStop
                      go_wp2
                      go_roundg (gk - 1)
                      case measure => omega
                      case rel => exact ⟨k + 1, by omega, by rw [HU.out]; go_num, HN.out, HB.out⟩
                    · have he1 : (u == (s : Int)) = false := by simpa using h1
                      have he2 : (u == (t : Int)) = true := by simpa using (hus.resolve_left h1)
                      have HB : Hid (Rb w #[.int .i64 x.letters, .slice da dn dc, .slice sa sn sc, .int .i64 x.beg, .int .i64 x.fin, .int .i64 x.front, .int .i64 x.back, .bool x.banded, .int .i64 x.lo, .int .i64 x.hi, .slice (some ⟨g1, o1, none⟩) tn tc] wr) := HQ.out.2
                      clear hus h1 HQ HNext HStop
                      go_wp2
                      go_roundg (gk - 1)
                      case measure => omega
                      case rel => exact ⟨k + 1, by omega, by rw [HU.out]; go_num, HN.out, HB.out⟩
                  · have he1 : (u == (s : Int)) = false := beq_eq_false_iff_ne.2 (fun e => hus (.inl e))
                    have he2 : (u == (t : Int)) = false := beq_eq_false_iff_ne.2 (fun e => hus (.inr e))
                    have HT : Hid (thirdD vs x.states s t u = (((edgeB x.states u s).isSome == (edgeB x.states u t).isSome) && (decide (u < 0) || leadO vs x.states s t u.toNat))) := third_not (fun e => hus (.inl e)) (fun e => hus (.inr e))
                    obtain ⟨P, hP⟩ : ∃ P, (edgeB x.states u s).isSome = P := ⟨_, rfl⟩
                    obtain ⟨Q, hQ⟩ : ∃ Q, (edgeB x.states u t).isSome = Q := ⟨_, rfl⟩
                    rw [hP, hQ] at HT
                    have HE1 : Hid (Calls Try.prog 64 #[.agg #[.int .i64 x.letters, .slice da dn dc, .slice sa sn sc, .int .i64 x.beg, .int .i64 x.fin, .int .i64 x.front, .int .i64 x.back, .bool x.banded, .int .i64 x.lo, .int .i64 x.hi, .slice (some ⟨g1, o1, none⟩) tn tc], .slice va vn vc, .int .i64 (s : Int), .int .i64 u] wr fun e w' => e = .returned (.tuple #[.int .i64 (ecV vs (edgeB x.states u s)), .bool P]) ∧ Below wr.heap.size wr w') := by
                      have := HE.out wr s u HQ.out.2.low hs
                      rw [hP] at this
                      exact this
                    have HE2 : Hid (∀ W, Below w.heap.size w W → Calls Try.prog 64 #[.agg #[.int .i64 x.letters, .slice da dn dc, .slice sa sn sc, .int .i64 x.beg, .int .i64 x.fin, .int .i64 x.front, .int .i64 x.back, .bool x.banded, .int .i64 x.lo, .int .i64 x.hi, .slice (some ⟨g1, o1, none⟩) tn tc], .slice va vn vc, .int .i64 (t : Int), .int .i64 u] W fun e w' => e = .returned (.tuple #[.int .i64 (ecV vs (edgeB x.states u t)), .bool Q]) ∧ Below W.heap.size W w') := fun W hW => by
                      have := HE.out W t u hW ht
                      rw [hQ] at this
                      exact this
                    clear hus hP hQ
                    go_wp2_with fail
                    refine HE1.out.mono ?_
                    rintro e w6 ⟨rfl, hb6⟩
                    have HB6 : Hid (Rb w #[.int .i64 x.letters, .slice da dn dc, .slice sa sn sc, .int .i64 x.beg, .int .i64 x.fin, .int .i64 x.front, .int .i64 x.back, .bool x.banded, .int .i64 x.lo, .int .i64 x.hi, .slice (some ⟨g1, o1, none⟩) tn tc] w6) := HQ.out.2.next hb6
                    clear hb6 HE1 c0 c1 c2 c3 c4 c5 c6 c7 c8 c9 c10 HQ
                    have c0 : w6.cell? ⟨w.heap.size, 0, none⟩ = some (.int .i64 x.letters) := blk HB6.out.box rfl
                    have c1 : w6.cell? ⟨w.heap.size, 1, none⟩ = some (.slice da dn dc) := blk HB6.out.box rfl
                    have c2 : w6.cell? ⟨w.heap.size, 2, none⟩ = some (.slice sa sn sc) := blk HB6.out.box rfl
                    have c3 : w6.cell? ⟨w.heap.size, 3, none⟩ = some (.int .i64 x.beg) := blk HB6.out.box rfl
                    have c4 : w6.cell? ⟨w.heap.size, 4, none⟩ = some (.int .i64 x.fin) := blk HB6.out.box rfl
                    have c5 : w6.cell? ⟨w.heap.size, 5, none⟩ = some (.int .i64 x.front) := blk HB6.out.box rfl
                    have c6 : w6.cell? ⟨w.heap.size, 6, none⟩ = some (.int .i64 x.back) := blk HB6.out.box rfl
                    have c7 : w6.cell? ⟨w.heap.size, 7, none⟩ = some (.bool x.banded) := blk HB6.out.box rfl
                    have c8 : w6.cell? ⟨w.heap.size, 8, none⟩ = some (.int .i64 x.lo) := blk HB6.out.box rfl
                    have c9 : w6.cell? ⟨w.heap.size, 9, none⟩ = some (.int .i64 x.hi) := blk HB6.out.box rfl
                    have c10 : w6.cell? ⟨w.heap.size, 10, none⟩ = some (.slice (some ⟨g1, o1, none⟩) tn tc) := blk HB6.out.box rfl
                    go_wp2_with fail
                    refine (HE2.out w6 HB6.out.low).mono ?_
                    rintro e w7 ⟨rfl, hb7⟩
                    have HB7 : Hid (Rb w #[.int .i64 x.letters, .slice da dn dc, .slice sa sn sc, .int .i64 x.beg, .int .i64 x.fin, .int .i64 x.front, .int .i64 x.back, .bool x.banded, .int .i64 x.lo, .int .i64 x.hi, .slice (some ⟨g1, o1, none⟩) tn tc] w7) := HB6.out.next hb7
                    clear hb7 HE2 c0 c1 c2 c3 c4 c5 c6 c7 c8 c9 c10 HB6
                    by_cases hpq : P = Q
                    · subst hpq
                      have HT2 : Hid (thirdD vs x.states s t u = (decide (u < 0) || leadO vs x.states s t u.toNat)) := by show _ = _; rw [HT.out]; simp
                      have hpe : (P != P) = false := by simp
                      clear HT
                      by_cases hu0 : u < 0
                      · have hud : decide (u < 0) = true := by simpa using hu0
                        have HN : Hid (∀ j : Nat, j < k + 1 → thirdD vs x.states s t ((j : Int) - 1) = true) := HNext.out (by rw [HT2.out, hud]; rfl)
                        clear hu0 HNext HStop HT2
                        go_wp2
                        go_roundg (gk - 1)
                        case measure => omega
                        case rel => exact ⟨k + 1, by omega, by rw [HU.out]; go_num, HN.out, HB7.out⟩
                      · have hud : decide (u < 0) = false := by simpa using hu0
                        obtain ⟨z, hz⟩ : ∃ z : Nat, u = (z : Int) := ⟨u.toNat, by omega⟩
                        subst hz
                        have hzt : z < tn := by omega
                        have HT3 : Hid (thirdD vs x.states s t (z : Int) = (((edgeB x.states s z).isSome == (edgeB x.states t z).isSome) && decide (ecV vs (edgeB x.states s z) = ecV vs (edgeB x.states t z)))) := by
                          show _ = _
                          rw [HT2.out, hud, Bool.false_or, Int.toNat_natCast, lead_cost]
                        obtain ⟨F, hF⟩ : ∃ F, (edgeB x.states s z).isSome = F := ⟨_, rfl⟩
                        obtain ⟨G, hG⟩ : ∃ G, (edgeB x.states t z).isSome = G := ⟨_, rfl⟩
                        obtain ⟨cf, hcf⟩ : ∃ cf, ecV vs (edgeB x.states s z) = cf := ⟨_, rfl⟩
                        obtain ⟨cg, hcg⟩ : ∃ cg, ecV vs (edgeB x.states t z) = cg := ⟨_, rfl⟩
                        rw [hF, hG, hcf, hcg] at HT3
                        have HE3 : Hid (∀ W, Below w.heap.size w W → Calls Try.prog 64 #[.agg #[.int .i64 x.letters, .slice da dn dc, .slice sa sn sc, .int .i64 x.beg, .int .i64 x.fin, .int .i64 x.front, .int .i64 x.back, .bool x.banded, .int .i64 x.lo, .int .i64 x.hi, .slice (some ⟨g1, o1, none⟩) tn tc], .slice va vn vc, .int .i64 (z : Int), .int .i64 (s : Int)] W fun e w' => e = .returned (.tuple #[.int .i64 cf, .bool F]) ∧ Below W.heap.size W w') := fun W hW => by
                          have := HE.out W z s hW hzt
                          rw [hF, hcf] at this
                          exact this
                        have HE4 : Hid (∀ W, Below w.heap.size w W → Calls Try.prog 64 #[.agg #[.int .i64 x.letters, .slice da dn dc, .slice sa sn sc, .int .i64 x.beg, .int .i64 x.fin, .int .i64 x.front, .int .i64 x.back, .bool x.banded, .int .i64 x.lo, .int .i64 x.hi, .slice (some ⟨g1, o1, none⟩) tn tc], .slice va vn vc, .int .i64 (z : Int), .int .i64 (t : Int)] W fun e w' => e = .returned (.tuple #[.int .i64 cg, .bool G]) ∧ Below W.heap.size W w') := fun W hW => by
                          have := HE.out W z t hW hzt
                          rw [hG, hcg] at this
                          exact this
                        clear hu0 HT2 hF hG hcf hcg
                        have c0 : w7.cell? ⟨w.heap.size, 0, none⟩ = some (.int .i64 x.letters) := blk HB7.out.box rfl
                        have c1 : w7.cell? ⟨w.heap.size, 1, none⟩ = some (.slice da dn dc) := blk HB7.out.box rfl
                        have c2 : w7.cell? ⟨w.heap.size, 2, none⟩ = some (.slice sa sn sc) := blk HB7.out.box rfl
                        have c3 : w7.cell? ⟨w.heap.size, 3, none⟩ = some (.int .i64 x.beg) := blk HB7.out.box rfl
                        have c4 : w7.cell? ⟨w.heap.size, 4, none⟩ = some (.int .i64 x.fin) := blk HB7.out.box rfl
                        have c5 : w7.cell? ⟨w.heap.size, 5, none⟩ = some (.int .i64 x.front) := blk HB7.out.box rfl
                        have c6 : w7.cell? ⟨w.heap.size, 6, none⟩ = some (.int .i64 x.back) := blk HB7.out.box rfl
                        have c7 : w7.cell? ⟨w.heap.size, 7, none⟩ = some (.bool x.banded) := blk HB7.out.box rfl
                        have c8 : w7.cell? ⟨w.heap.size, 8, none⟩ = some (.int .i64 x.lo) := blk HB7.out.box rfl
                        have c9 : w7.cell? ⟨w.heap.size, 9, none⟩ = some (.int .i64 x.hi) := blk HB7.out.box rfl
                        have c10 : w7.cell? ⟨w.heap.size, 10, none⟩ = some (.slice (some ⟨g1, o1, none⟩) tn tc) := blk HB7.out.box rfl
                        go_wp2_with fail
                        refine (HE3.out w7 HB7.out.low).mono ?_
                        rintro e w8 ⟨rfl, hb8⟩
                        have HB8 : Hid (Rb w #[.int .i64 x.letters, .slice da dn dc, .slice sa sn sc, .int .i64 x.beg, .int .i64 x.fin, .int .i64 x.front, .int .i64 x.back, .bool x.banded, .int .i64 x.lo, .int .i64 x.hi, .slice (some ⟨g1, o1, none⟩) tn tc] w8) := HB7.out.next hb8
                        clear hb8 HE3 c0 c1 c2 c3 c4 c5 c6 c7 c8 c9 c10 HB7
                        have c0 : w8.cell? ⟨w.heap.size, 0, none⟩ = some (.int .i64 x.letters) := blk HB8.out.box rfl
                        have c1 : w8.cell? ⟨w.heap.size, 1, none⟩ = some (.slice da dn dc) := blk HB8.out.box rfl
                        have c2 : w8.cell? ⟨w.heap.size, 2, none⟩ = some (.slice sa sn sc) := blk HB8.out.box rfl
                        have c3 : w8.cell? ⟨w.heap.size, 3, none⟩ = some (.int .i64 x.beg) := blk HB8.out.box rfl
                        have c4 : w8.cell? ⟨w.heap.size, 4, none⟩ = some (.int .i64 x.fin) := blk HB8.out.box rfl
                        have c5 : w8.cell? ⟨w.heap.size, 5, none⟩ = some (.int .i64 x.front) := blk HB8.out.box rfl
                        have c6 : w8.cell? ⟨w.heap.size, 6, none⟩ = some (.int .i64 x.back) := blk HB8.out.box rfl
                        have c7 : w8.cell? ⟨w.heap.size, 7, none⟩ = some (.bool x.banded) := blk HB8.out.box rfl
                        have c8 : w8.cell? ⟨w.heap.size, 8, none⟩ = some (.int .i64 x.lo) := blk HB8.out.box rfl
                        have c9 : w8.cell? ⟨w.heap.size, 9, none⟩ = some (.int .i64 x.hi) := blk HB8.out.box rfl
                        have c10 : w8.cell? ⟨w.heap.size, 10, none⟩ = some (.slice (some ⟨g1, o1, none⟩) tn tc) := blk HB8.out.box rfl
                        go_wp2_with fail
                        refine (HE4.out w8 HB8.out.low).mono ?_
                        rintro e w9 ⟨rfl, hb9⟩
                        have HB9 : Hid (Rb w #[.int .i64 x.letters, .slice da dn dc, .slice sa sn sc, .int .i64 x.beg, .int .i64 x.fin, .int .i64 x.front, .int .i64 x.back, .bool x.banded, .int .i64 x.lo, .int .i64 x.hi, .slice (some ⟨g1, o1, none⟩) tn tc] w9) := HB8.out.next hb9
                        clear hb9 HE4 c0 c1 c2 c3 c4 c5 c6 c7 c8 c9 c10 HB8
                        by_cases hfg : F = G
                        · subst hfg
                          have hfe : (F != F) = false := by simp
                          by_cases hcc : cf = cg
                          · have hce : (cf != cg) = false := by simpa using hcc
                            have HN : Hid (∀ j : Nat, j < k + 1 → thirdD vs x.states s t ((j : Int) - 1) = true) := HNext.out (by rw [HT3.out, decide_eq_true hcc]; simp)
                            clear hcc HNext HStop HT3
                            go_wp2
                            go_roundg (gk - 1)
                            case measure => omega
                            case rel => exact ⟨k + 1, by omega, by rw [HU.out]; go_num, HN.out, HB9.out⟩
                          · have hce : (cf != cg) = true := by simpa using hcc
                            have HF : Hid (V = false) := HStop.out (by rw [HT3.out, decide_eq_false hcc]; simp)
                            clear hcc HNext HStop HT3
                            go_wp2
                            go_ret
                            exact ⟨by rw [HF.out]; rfl, HB9.out.low⟩
                        · have hfe : (F != G) = true := by simpa using hfg
                          have HF : Hid (V = false) := HStop.out (by rw [HT3.out, beq_eq_false_iff_ne.2 hfg]; rfl)
                          clear HNext HStop HT3
                          go_wp2
                          go_ret
                          exact ⟨by rw [HF.out]; rfl, HB9.out.low⟩
                    · have hpe : (P != Q) = true := by simpa using hpq
                      have hpb : (P == Q) = false := beq_eq_false_iff_ne.2 hpq
                      have HF : Hid (V = false) := HStop.out (by rw [HT.out, beq_eq_false_iff_ne.2 hpq]; rfl)
                      clear HNext HStop HT
                      go_wp2
                      go_ret
                      exact ⟨by rw [HF.out]; rfl, HB7.out.low⟩
                · have hz0 : decide ((k : Int) - 1 < (tn : Int)) = false := by simp; omega
                  have HF : Hid (V = true ∧ Below w.heap.size w wr) := by
                    refine ⟨?_, HQ.out.2.low⟩
                    rw [HVa.out]
                    exact all_range.2 fun j hj => HQ.out.1 j (by omega)
                  clear HQ
                  go_wp2
                  go_ret
                  exact ⟨by rw [HF.out.1]; rfl, HF.out.2⟩
        · have hke : (ks != kt) = true := by simpa using hkk
          have HF : Hid (V = false) := by show _ = _; rw [← HV.out.1]; exact twD_not (.inr (.inr (.inr (.inl (by rw [HKK.out.1, HKK.out.2]; exact hkk)))))
          clear hkk
          go_wp2_with fail
          go_quiet (fail)
          go_wp2
          go_ret
          exact ⟨by rw [HF.out]; rfl, below_dn HB2.out.low nq⟩
end Go.Proofs.Ytolehoibpnenlaa
namespace Go.Proofs.Ytolehoibpnenlaa
open Go.RowKit Go.Deep Go.Maps

theorem above_1 {a b : Int} (h1 : b = 0) (h2 : 0 < a) : aboveB a b = (0, -2) := by rw [aboveB, if_pos ⟨h1, h2⟩]
theorem above_2 {a b : Int} (h1 : b = 0) (h2 : a ≤ 0) : aboveB a b = (0, -1) := by rw [aboveB, if_neg (by omega), if_pos h1]
theorem above_3 {a b : Int} (h1 : 0 < b) (h2 : 0 < a) : aboveB a b = (0, -2) := by rw [aboveB, if_neg (by omega), if_neg (by omega), if_pos ⟨h1, h2⟩]
theorem above_4 {a b : Int} (h1 : 0 < b) (h2 : a ≤ 0) : aboveB a b = (-a / b + 1, -2) := by rw [aboveB, if_neg (by omega), if_neg (by omega), if_neg (by omega), if_pos h1]
theorem above_5 {a b : Int} (h1 : b < 0) (h2 : a ≤ 0) : aboveB a b = (0, -1) := by rw [aboveB, if_neg (by omega), if_neg (by omega), if_neg (by omega), if_neg (by omega), if_pos h2]
theorem above_6 {a b : Int} (h1 : b < 0) (h2 : 0 < a) : aboveB a b = (0, (a - 1) / -b) := by rw [aboveB, if_neg (by omega), if_neg (by omega), if_neg (by omega), if_neg (by omega), if_neg (by omega)]
set_option maxRecDepth 20000 in
set_option maxHeartbeats 2000000 in
theorem above_calls (a b : Int) (w : World) (a1 : -288230376151711744 ≤ a) (a2 : a ≤ 288230376151711744) (b1 : -288230376151711744 ≤ b) (b2 : b ≤ 288230376151711744) :
    Calls Try.prog 43 #[.int .i64 a, .int .i64 b] w fun e w' => e = .returned (.tuple #[.int .i64 (aboveB a b).1, .int .i64 (aboveB a b).2]) ∧ Below w.heap.size w w' := by
  by_cases hb0 : b = 0
  · have hbe : (b == (0 : Int)) = true := by simpa using hb0
    by_cases ha : 0 < a
    · have hae : decide ((0 : Int) < a) = true := by simpa using ha
      rw [above_1 hb0 ha]
      clear hb0
      go_enter Try.func43, Try.ntmps43
      go_wp2
      go_ret2
      exact ⟨rfl, Below.refl _ _⟩
    · have hae : decide ((0 : Int) < a) = false := by simpa using ha
      rw [above_2 hb0 (by omega)]
      clear hb0
      go_enter Try.func43, Try.ntmps43
      go_wp2
      go_ret2
      exact ⟨rfl, Below.refl _ _⟩
  · have hbe : (b == (0 : Int)) = false := by simpa using hb0
    by_cases hb : 0 < b
    · have hbd : decide ((0 : Int) < b) = true := by simpa using hb
      by_cases ha : 0 < a
      · have hae : decide ((0 : Int) < a) = true := by simpa using ha
        rw [above_3 hb ha]
        go_enter Try.func43, Try.ntmps43
        go_wp2
        go_ret2
        exact ⟨rfl, Below.refl _ _⟩
      · have hae : decide ((0 : Int) < a) = false := by simpa using ha
        rw [above_4 hb (by omega)]
        obtain ⟨c, hc⟩ : ∃ c, -a = c := ⟨_, rfl⟩
        have c0 : 0 ≤ c := by omega
        have c1 : c ≤ 288230376151711744 := by omega
        obtain ⟨v1, v2⟩ := div_le (a := c) (b := b) c0 hb
        rw [hc]
        go_enter Try.func43, Try.ntmps43
        go_wp2
        go_ret2
        exact ⟨rfl, Below.refl _ _⟩
    · have hbd : decide ((0 : Int) < b) = false := by simpa using hb
      by_cases ha : 0 < a
      · have hae : decide ((0 : Int) < a) = true := by simpa using ha
        have hal : decide (a ≤ (0 : Int)) = false := by simpa using ha
        rw [above_6 (by omega) ha]
        obtain ⟨c, hc⟩ : ∃ c, -b = c := ⟨_, rfl⟩
        have c0 : 0 < c := by omega
        have cz : ¬ c = 0 := by omega
        have c1 : c ≤ 288230376151711744 := by omega
        obtain ⟨v1, v2⟩ := div_le (a := a - 1) (b := c) (by omega) c0
        rw [hc]
        have HC : Hid (-b = c) := hc
        go_enter Try.func43, Try.ntmps43
        go_wp2_with fail
        go_quiet (fail)
        go_wp2
        go_ret2
        exact ⟨rfl, below_dn (Below.refl _ _) nq⟩
      · have hae : decide ((0 : Int) < a) = false := by simpa using ha
        have hal : decide (a ≤ (0 : Int)) = true := by simp; omega
        rw [above_5 (by omega) (by omega)]
        go_enter Try.func43, Try.ntmps43
        go_wp2
        go_ret2
        exact ⟨rfl, Below.refl _ _⟩
theorem twD_gap {vs : List Int} {l : List St} {s t : Nat} (h : twD vs l s t = true) : ∃ g, gapB vs l t = some g := by
  simp only [twD, Bool.and_eq_true] at h
  exact Option.isSome_iff_exists.1 h.2.2.1
set_option maxRecDepth 20000 in
set_option maxHeartbeats 8000000 in
theorem never_calls (x : Rc) (da : Option Addr) (dn dc : Nat) (sa : Option Addr) (sn sc : Nat) (ta : Option Addr) (tn tc : Nat) (va : Option Addr) (vn vc : Nat) (vs : List Int) (w : World) (h : DvAt w x da dn sa sn ta tn va vn vs) (hv : ∀ v ∈ vs, -144115188075855872 ≤ v ∧ v ≤ 144115188075855872) (s : Nat) (hs : s < tn) :
    Calls Try.prog 29 #[.agg (rcCells x da dn dc sa sn sc ta tn tc), .slice va vn vc, .int .i64 (s : Int)] w fun e w' => e = .returned (.bool (goneD vs x.states s)) ∧ Below w.heap.size w w' := by
  have htn9 : tn ≤ 9 := by rw [← h.rc.states.length]; exact h.ok.1
  have hlen := h.rc.states.length
  have HGs : Hid (∀ W (z : Nat), Below w.heap.size w W → z < tn → Calls Try.prog 41 #[.agg (rcCells x da dn dc sa sn sc ta tn tc), .slice va vn vc, .int .i64 (z : Int)] W fun e w' => GapPost (gapB vs x.states z) W e w') := fun W z hW hz => gapState_calls x da dn dc sa sn sc ta tn tc va vn vc vs W (h.below hW) z hz
  have HTw : Hid (∀ W (z : Nat), Below w.heap.size w W → z < tn → Calls Try.prog 42 #[.agg (rcCells x da dn dc sa sn sc ta tn tc), .slice va vn vc, .int .i64 (s : Int), .int .i64 (z : Int)] W fun e w' => e = .returned (.bool (twD vs x.states s z)) ∧ Below W.heap.size W w') := fun W z hW hz => twins_calls x da dn dc sa sn sc ta tn tc va vn vc vs W (h.below hW) s z hs hz
  have HB0 : Hid (Rb w (rcCells x da dn dc sa sn sc ta tn tc) (w.alloc (.cells (rcCells x da dn dc sa sn sc ta tn tc) 26))) := Rb.start _ _
  obtain ⟨V, hV⟩ : ∃ V, goneD vs x.states s = V := ⟨_, rfl⟩
  have HV : Hid (goneD vs x.states s = V ∧ x.states.length = tn ∧ ∀ v ∈ vs, -144115188075855872 ≤ v ∧ v ≤ 144115188075855872) := ⟨hV, hlen, hv⟩
  rw [hV]
  obtain ⟨G, hG⟩ : ∃ G, gapB vs x.states s = G := ⟨_, rfl⟩
  have HG : Hid (gapB vs x.states s = G) := hG
  obtain ⟨ok, hok⟩ : ∃ ok, G.isSome = ok := ⟨_, rfl⟩
  have HOk : Hid (G.isSome = ok) := hok
  have HG1 : Hid (∀ W, Below w.heap.size w W → Calls Try.prog 41 #[.agg (rcCells x da dn dc sa sn sc ta tn tc), .slice va vn vc, .int .i64 (s : Int)] W fun e w' => ∃ a b : Int, e = .returned (.tuple #[.int .i64 a, .int .i64 b, .bool ok]) ∧ (∀ q, G = some q → q = (a, b)) ∧ Below W.heap.size W w') := fun W hW => by
    have := HGs.out W s hW hs
    rw [hG] at this
    refine this.mono ?_
    rintro e w' ⟨a, b, h1, h2, h3⟩
    rw [hok] at h1
    exact ⟨a, b, h1, h2, h3⟩
  clear h hlen hV hv hG hok
  unfold rcCells at HB0 HGs HTw HG1 ⊢
  go_enter Try.func29, Try.ntmps29
  go_wp2_with fail
  refine (HG1.out _ HB0.out.low).mono ?_
  rintro e w1 ⟨opens, on, rfl, hq1, hb1⟩
  have HB1 : Hid (Rb w #[.int .i64 x.letters, .slice da dn dc, .slice sa sn sc, .int .i64 x.beg, .int .i64 x.fin, .int .i64 x.front, .int .i64 x.back, .bool x.banded, .int .i64 x.lo, .int .i64 x.hi, .slice ta tn tc] w1 ∧ ∀ q, G = some q → q = (opens, on)) := ⟨HB0.out.next hb1, hq1⟩
  clear hb1 hq1 HB0 HG1
  cases G with
  | none =>
    obtain rfl : false = ok := HOk.out
    have HF : Hid (V = false) := by show _ = _; rw [← HV.out.1, goneD, HG.out]
    go_wp2
    go_ret
    exact ⟨by rw [HF.out]; rfl, HB1.out.1.low⟩
  | some g =>
    obtain rfl : true = ok := HOk.out
    obtain rfl : g = (opens, on) := HB1.out.2 g rfl
    have HVa : Hid (V = neverD (opens, on) (twinsD vs x.states s tn)) := by show _ = _; rw [← HV.out.1, goneD, HG.out, HV.out.2.1]
    obtain ⟨⟨n1, n2⟩, n3, n4⟩ := gap_in HV.out.2.2 HG.out
    simp only at n1 n2 n3 n4
    have HB2 : Hid (Rb w #[.int .i64 x.letters, .slice da dn dc, .slice sa sn sc, .int .i64 x.beg, .int .i64 x.fin, .int .i64 x.front, .int .i64 x.back, .bool x.banded, .int .i64 x.lo, .int .i64 x.hi, .slice ta tn tc] w1) := HB1.out.1
    clear HB1
    go_wp2
    go_loopg [10, 11, 12, 13, 14, 15, 16, 17, 18, 19] tn (fun q fv ov sv kv _ _ _ _ _ _ wr => ∃ (k : Nat) (fr to' : Int) (so : Bool), k + q = tn ∧ kv = .int .i64 k ∧ fv = .int .i64 fr ∧ ov = .int .i64 to' ∧ sv = .bool so ∧ Hid ((twinsD vs x.states s k).foldl (stepN (opens, on)) (0, -2) = (fr, to') ∧ so = decide (twinsD vs x.states s k ≠ []) ∧ Rb w #[.int .i64 x.letters, .slice da dn dc, .slice sa sn sc, .int .i64 x.beg, .int .i64 x.fin, .int .i64 x.front, .int .i64 x.back, .bool x.banded, .int .i64 x.lo, .int .i64 x.hi, .slice ta tn tc] wr))
    case atStart => exact ⟨0, 0, -2, false, by omega, rfl, rfl, rfl, rfl, rfl, rfl, HB2.out⟩
    case round =>
      clear HB2
      obtain ⟨k, fr, to', so, hkq, rfl, rfl, rfl, rfl, HQ⟩ := hrel
      have c0 : wr.cell? ⟨w.heap.size, 0, none⟩ = some (.int .i64 x.letters) := blk HQ.out.2.2.box rfl
      have c1 : wr.cell? ⟨w.heap.size, 1, none⟩ = some (.slice da dn dc) := blk HQ.out.2.2.box rfl
      have c2 : wr.cell? ⟨w.heap.size, 2, none⟩ = some (.slice sa sn sc) := blk HQ.out.2.2.box rfl
      have c3 : wr.cell? ⟨w.heap.size, 3, none⟩ = some (.int .i64 x.beg) := blk HQ.out.2.2.box rfl
      have c4 : wr.cell? ⟨w.heap.size, 4, none⟩ = some (.int .i64 x.fin) := blk HQ.out.2.2.box rfl
      have c5 : wr.cell? ⟨w.heap.size, 5, none⟩ = some (.int .i64 x.front) := blk HQ.out.2.2.box rfl
      have c6 : wr.cell? ⟨w.heap.size, 6, none⟩ = some (.int .i64 x.back) := blk HQ.out.2.2.box rfl
      have c7 : wr.cell? ⟨w.heap.size, 7, none⟩ = some (.bool x.banded) := blk HQ.out.2.2.box rfl
      have c8 : wr.cell? ⟨w.heap.size, 8, none⟩ = some (.int .i64 x.lo) := blk HQ.out.2.2.box rfl
      have c9 : wr.cell? ⟨w.heap.size, 9, none⟩ = some (.int .i64 x.hi) := blk HQ.out.2.2.box rfl
      have c10 : wr.cell? ⟨w.heap.size, 10, none⟩ = some (.slice ta tn tc) := blk HQ.out.2.2.box rfl
      by_cases hlt : k < tn
      · have hz0 : decide ((k : Int) < (tn : Int)) = true := by simp; omega
        have hzd : (k : Int) < (tn : Int) := by omega
        obtain ⟨T, hT⟩ : ∃ T, twD vs x.states s k = T := ⟨_, rfl⟩
        have HC : Hid (Calls Try.prog 42 #[.agg #[.int .i64 x.letters, .slice da dn dc, .slice sa sn sc, .int .i64 x.beg, .int .i64 x.fin, .int .i64 x.front, .int .i64 x.back, .bool x.banded, .int .i64 x.lo, .int .i64 x.hi, .slice ta tn tc], .slice va vn vc, .int .i64 (s : Int), .int .i64 (k : Int)] wr fun e w' => e = .returned (.bool T) ∧ Below wr.heap.size wr w') := by rw [← hT]; exact HTw.out wr k HQ.out.2.2.low hlt
        have HT : Hid (twD vs x.states s k = T) := hT
        clear hT
        go_wp2_with fail
        refine HC.out.mono ?_
        rintro e w2 ⟨rfl, hb2⟩
        have HB2 : Hid (Rb w #[.int .i64 x.letters, .slice da dn dc, .slice sa sn sc, .int .i64 x.beg, .int .i64 x.fin, .int .i64 x.front, .int .i64 x.back, .bool x.banded, .int .i64 x.lo, .int .i64 x.hi, .slice ta tn tc] w2) := HQ.out.2.2.next hb2
        clear hb2 HC c0 c1 c2 c3 c4 c5 c6 c7 c8 c9 c10
        cases T with
        | false =>
          have HN : Hid ((twinsD vs x.states s (k + 1)).foldl (stepN (opens, on)) (0, -2) = (fr, to') ∧ so = decide (twinsD vs x.states s (k + 1) ≠ [])) := by
            have e : twinsD vs x.states s (k + 1) = twinsD vs x.states s k := by rw [twinsD_snoc, HT.out, if_neg (by decide)]; simp
            rw [e]
            exact ⟨HQ.out.1, HQ.out.2.1⟩
          clear HQ
          go_wp2
          go_roundg (gk - 1)
          case measure => omega
          case rel => exact ⟨k + 1, fr, to', so, by omega, by go_num, rfl, rfl, rfl, HN.out.1, HN.out.2, HB2.out⟩
        | true =>
          obtain ⟨p, hp⟩ := twD_gap HT.out
          obtain ⟨⟨p1, p2⟩, p3, p4⟩ := gap_in HV.out.2.2 hp
          have HC2 : Hid (∀ W, Below w.heap.size w W → Calls Try.prog 41 #[.agg #[.int .i64 x.letters, .slice da dn dc, .slice sa sn sc, .int .i64 x.beg, .int .i64 x.fin, .int .i64 x.front, .int .i64 x.back, .bool x.banded, .int .i64 x.lo, .int .i64 x.hi, .slice ta tn tc], .slice va vn vc, .int .i64 (k : Int)] W fun e w' => ∃ a b : Int, e = .returned (.tuple #[.int .i64 a, .int .i64 b, .bool true]) ∧ p = (a, b) ∧ Below W.heap.size W w') := fun W hW => by
            have := HGs.out W k hW hlt
            rw [hp] at this
            refine this.mono ?_
            rintro e w' ⟨a, b, h1, h2, h3⟩
            exact ⟨a, b, h1, h2 p rfl, h3⟩
          have HP : Hid (twinsD vs x.states s (k + 1) = twinsD vs x.states s k ++ [p]) := by show _ = _; rw [twinsD_snoc, HT.out, if_pos rfl, hp]; rfl
          clear hp
          have c0 : w2.cell? ⟨w.heap.size, 0, none⟩ = some (.int .i64 x.letters) := blk HB2.out.box rfl
          have c1 : w2.cell? ⟨w.heap.size, 1, none⟩ = some (.slice da dn dc) := blk HB2.out.box rfl
          have c2 : w2.cell? ⟨w.heap.size, 2, none⟩ = some (.slice sa sn sc) := blk HB2.out.box rfl
          have c3 : w2.cell? ⟨w.heap.size, 3, none⟩ = some (.int .i64 x.beg) := blk HB2.out.box rfl
          have c4 : w2.cell? ⟨w.heap.size, 4, none⟩ = some (.int .i64 x.fin) := blk HB2.out.box rfl
          have c5 : w2.cell? ⟨w.heap.size, 5, none⟩ = some (.int .i64 x.front) := blk HB2.out.box rfl
          have c6 : w2.cell? ⟨w.heap.size, 6, none⟩ = some (.int .i64 x.back) := blk HB2.out.box rfl
          have c7 : w2.cell? ⟨w.heap.size, 7, none⟩ = some (.bool x.banded) := blk HB2.out.box rfl
          have c8 : w2.cell? ⟨w.heap.size, 8, none⟩ = some (.int .i64 x.lo) := blk HB2.out.box rfl
          have c9 : w2.cell? ⟨w.heap.size, 9, none⟩ = some (.int .i64 x.hi) := blk HB2.out.box rfl
          have c10 : w2.cell? ⟨w.heap.size, 10, none⟩ = some (.slice ta tn tc) := blk HB2.out.box rfl
          go_wp2_with fail
          refine (HC2.out w2 HB2.out.low).mono ?_
          rintro e w3 ⟨a, b, rfl, rfl, hb3⟩
          have HB3 : Hid (Rb w #[.int .i64 x.letters, .slice da dn dc, .slice sa sn sc, .int .i64 x.beg, .int .i64 x.fin, .int .i64 x.front, .int .i64 x.back, .bool x.banded, .int .i64 x.lo, .int .i64 x.hi, .slice ta tn tc] w3) := HB2.out.next hb3
          clear hb3 HC2 c0 c1 c2 c3 c4 c5 c6 c7 c8 c9 c10 HB2
          simp only at p1 p2 p3 p4
          have q1 : -288230376151711744 ≤ a - opens := by omega
          have q2 : a - opens ≤ 288230376151711744 := by omega
          have q3 : -288230376151711744 ≤ b - on := by omega
          have q4 : b - on ≤ 288230376151711744 := by omega
          have HAb : Hid (Calls Try.prog 43 #[.int .i64 (a - opens), .int .i64 (b - on)] w3 fun e w' => e = .returned (.tuple #[.int .i64 (aboveB (a - opens) (b - on)).1, .int .i64 (aboveB (a - opens) (b - on)).2]) ∧ Below w3.heap.size w3 w') := above_calls _ _ w3 q1 q2 q3 q4
          obtain ⟨A, hA⟩ : ∃ A, (aboveB (a - opens) (b - on)).1 = A := ⟨_, rfl⟩
          obtain ⟨B, hB⟩ : ∃ B, (aboveB (a - opens) (b - on)).2 = B := ⟨_, rfl⟩
          have HN : Hid (∀ z, z = (if B ≠ -2 ∧ (to' = -2 ∨ B < to') then B else to') → (twinsD vs x.states s (k + 1)).foldl (stepN (opens, on)) (0, -2) = (max fr A, z) ∧ true = decide (twinsD vs x.states s (k + 1) ≠ [])) := fun z hz => by
            rw [HP.out]
            refine ⟨?_, by simp⟩
            rw [List.foldl_append, HQ.out.1]
            simp only [List.foldl_cons, List.foldl_nil, stepN, hA, hB]
            rw [hz]
          rw [hA, hB] at HAb
          clear hA hB HQ HP
          go_wp2_with fail
          refine HAb.out.mono ?_
          rintro e w4 ⟨rfl, hb4⟩
          have HB4 : Hid (Rb w #[.int .i64 x.letters, .slice da dn dc, .slice sa sn sc, .int .i64 x.beg, .int .i64 x.fin, .int .i64 x.front, .int .i64 x.back, .bool x.banded, .int .i64 x.lo, .int .i64 x.hi, .slice ta tn tc] w4) := HB3.out.next hb4
          clear hb4 HAb HB3
          by_cases h1 : B = -2
          · have h1e : (B != (-2 : Int)) = false := by simpa using h1
            have HN2 := HN.out to' (by rw [if_neg (fun e => e.1 h1)])
            have HN3 : Hid ((twinsD vs x.states s (k + 1)).foldl (stepN (opens, on)) (0, -2) = (max fr A, to') ∧ true = decide (twinsD vs x.states s (k + 1) ≠ [])) := HN2
            clear HN HN2 h1
            go_wp2
            go_roundg (gk - 1)
            case measure => omega
            case rel => exact ⟨k + 1, max fr A, to', true, by omega, by go_num, rfl, rfl, rfl, HN3.out.1, HN3.out.2, HB4.out⟩
          · have h1e : (B != (-2 : Int)) = true := by simpa using h1
            by_cases h2 : to' = -2
            · have h2e : (to' == (-2 : Int)) = true := by simpa using h2
              have HN2 := HN.out B (by rw [if_pos ⟨h1, .inl h2⟩])
              have HN3 : Hid ((twinsD vs x.states s (k + 1)).foldl (stepN (opens, on)) (0, -2) = (max fr A, B) ∧ true = decide (twinsD vs x.states s (k + 1) ≠ [])) := HN2
              clear HN HN2 h1 h2
              go_wp2
              go_roundg (gk - 1)
              case measure => omega
              case rel => exact ⟨k + 1, max fr A, B, true, by omega, by go_num, rfl, rfl, rfl, HN3.out.1, HN3.out.2, HB4.out⟩
            · have h2e : (to' == (-2 : Int)) = false := by simpa using h2
              by_cases h3 : B < to'
              · have h3e : decide (B < to') = true := by simpa using h3
                have HN2 := HN.out B (by rw [if_pos ⟨h1, .inr h3⟩])
                have HN3 : Hid ((twinsD vs x.states s (k + 1)).foldl (stepN (opens, on)) (0, -2) = (max fr A, B) ∧ true = decide (twinsD vs x.states s (k + 1) ≠ [])) := HN2
                clear HN HN2 h1 h2
                go_wp2
                go_roundg (gk - 1)
                case measure => omega
                case rel => exact ⟨k + 1, max fr A, B, true, by omega, by go_num, rfl, rfl, rfl, HN3.out.1, HN3.out.2, HB4.out⟩
              · have h3e : decide (B < to') = false := by simpa using h3
                have HN2 := HN.out to' (by rw [if_neg (fun e => e.2.elim h2 h3)])
                have HN3 : Hid ((twinsD vs x.states s (k + 1)).foldl (stepN (opens, on)) (0, -2) = (max fr A, to') ∧ true = decide (twinsD vs x.states s (k + 1) ≠ [])) := HN2
                clear HN HN2 h1 h2
                go_wp2
                go_roundg (gk - 1)
                case measure => omega
                case rel => exact ⟨k + 1, max fr A, to', true, by omega, by go_num, rfl, rfl, rfl, HN3.out.1, HN3.out.2, HB4.out⟩
      · have hz0 : decide ((k : Int) < (tn : Int)) = false := by simp; omega
        have HE : Hid (V = (so && (decide (to' ≠ -2) && decide (to' < fr))) ∧ Below w.heap.size w wr) := by
          refine ⟨?_, HQ.out.2.2.low⟩
          have h1 := HQ.out.1
          have h2 := HQ.out.2.1
          rw [show k = tn by omega] at h1 h2
          rw [HVa.out, neverD, h1, h2]
        clear HQ
        cases so with
        | false =>
          go_wp2
          go_ret
          exact ⟨by rw [HE.out.1]; rfl, HE.out.2⟩
        | true =>
          by_cases h2 : to' = -2
          · have h2e : (to' != (-2 : Int)) = false := by simpa using h2
            have HF : Hid (V = false) := by show _ = _; rw [HE.out.1]; simp [h2]
            clear h2
            go_wp2
            go_ret
            exact ⟨by rw [HF.out]; rfl, HE.out.2⟩
          · have h2e : (to' != (-2 : Int)) = true := by simpa using h2
            have HF : Hid (V = decide (to' < fr)) := by show _ = _; rw [HE.out.1]; simp [h2]
            clear h2
            go_wp2
            go_ret
            exact ⟨ret_bool HF.out.symm, HE.out.2⟩
end Go.Proofs.Ytolehoibpnenlaa
