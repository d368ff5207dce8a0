/-
  Prune: whether two states come from the same ones, and lead alike.
-/
import Derived.Test.YtolehoibpnenlaaMo
namespace Go.Proofs.Ytolehoibpnenlaa
open Go.RowKit Go.Deep Go.Maps

theorem pcs_of {w : World} {base : Nat} {ao : Option Addr} {n c : Nat} {l : List (Int × Int)} (h : w.ownsRow base 49 2 (.slice ao n c) n (pcRow l)) (hn : n = l.length) (hs : n ≤ 100) : PcsAt w ao n l := by
  subst hn
  obtain ⟨a, c', e, hp⟩ := pcs_own h (by unfold maxLen; omega)
  injection e with e1
  rw [e1]; exact hp
set_option maxRecDepth 20000 in
set_option maxHeartbeats 4000000 in
theorem come_calls (w : World) (base wb : Nat) (x : Rc) (vs : List Int) (y : Ly) (h : WkAt w base wb x vs y) (a b : Nat) (ha : a < x.states.length) (hb : b < x.states.length) :
    Calls Try.prog 77 #[.pointer (some ⟨wb, 0, none⟩), .int .i64 (a : Int), .int .i64 (b : Int)] w fun e w' => e = .returned (.bool (comeB x.states a b)) ∧ Below w.heap.size w w' := by
  have HA : Hid (∀ W, Below w.heap.size w W → Calls Try.prog 75 #[.pointer (some ⟨wb, 0, none⟩), .int .i64 (a : Int)] W fun e w' => RowPost 49 2 (othersB x.states a).length (pcRow (othersB x.states a)) W e w' ∧ (othersB x.states a).length ≤ 100) := fun W hW => others_calls W base wb x vs y (h.below hW) a ha
  have HB : Hid (∀ W, Below w.heap.size w W → Calls Try.prog 75 #[.pointer (some ⟨wb, 0, none⟩), .int .i64 (b : Int)] W fun e w' => RowPost 49 2 (othersB x.states b).length (pcRow (othersB x.states b)) W e w' ∧ (othersB x.states b).length ≤ 100) := fun W hW => others_calls W base wb x vs y (h.below hW) b hb
  have HV : Hid (comeB x.states a b = decide ((othersB x.states a).map (·.1) = (othersB x.states b).map (·.1))) := rfl
  obtain ⟨O, hO⟩ : ∃ O, othersB x.states a = O := ⟨_, rfl⟩
  obtain ⟨P, hP⟩ : ∃ P, othersB x.states b = P := ⟨_, rfl⟩
  obtain ⟨V, hV⟩ : ∃ V, comeB x.states a b = V := ⟨_, rfl⟩
  obtain ⟨m, hm⟩ : ∃ m, O.length = m := ⟨_, rfl⟩
  obtain ⟨p, hp⟩ : ∃ p, P.length = p := ⟨_, rfl⟩
  rw [hO, hm] at HA
  rw [hP, hp] at HB
  rw [hV, hO, hP] at HV
  rw [hV]
  have HL : Hid (O.length = m ∧ P.length = p) := ⟨hm, hp⟩
  clear h ha hb hO hP hV hm hp
  go_enter Try.func77, Try.ntmps77
  go_wp2_with fail
  refine (HA.out w (Below.refl _ _)).mono ?_
  rintro e w1 ⟨⟨oa, oc, rfl, ho1, hb1⟩, hm100⟩
  have HX1 : Hid (Below w.heap.size w w1 ∧ PcsAt w1 oa m O) := ⟨hb1, pcs_of ho1 HL.out.1.symm hm100⟩
  clear ho1 hb1 HA
  go_wp2_with fail
  refine (HB.out w1 HX1.out.1).mono ?_
  rintro e w2 ⟨⟨pa, pc, rfl, ho2, hb2⟩, hp100⟩
  have HX2 : Hid (Below w.heap.size w w2 ∧ PcsAt w2 oa m O ∧ PcsAt w2 pa p P) := ⟨HX1.out.1.trans (hb2.mono HX1.out.1.size), HX1.out.2.below hb2, pcs_of ho2 HL.out.2.symm hp100⟩
  clear ho2 hb2 HB HX1
  by_cases hmp : m = p
  · have hne : ((m : Int) != (p : Int)) = false := by simp; omega
    subst hmp
    go_wp2
    go_loopg [9, 23] m (fun q _ kv wr => ∃ (k : Nat), k + q = m ∧ kv = .int .i64 k ∧ Hid ((O.take k).map (·.1) = (P.take k).map (·.1) ∧ Below w.heap.size w wr ∧ PcsAt wr oa m O ∧ PcsAt wr pa m P))
    case atStart => exact ⟨0, by omega, rfl, rfl, HX2.out⟩
    case round =>
      clear HX2
      obtain ⟨k, hkq, rfl, HQ⟩ := hrel
      by_cases hlt : k < m
      · obtain ⟨e, he⟩ : ∃ e, O[k]? = some e := ⟨O[k]'(by rw [HL.out.1]; exact hlt), List.getElem?_eq_getElem _⟩
        obtain ⟨f, hf⟩ : ∃ f, P[k]? = some f := ⟨P[k]'(by rw [HL.out.2]; exact hlt), List.getElem?_eq_getElem _⟩
        obtain ⟨g1, o1, rfl, hce⟩ := HQ.out.2.2.1.cells (by omega)
        obtain ⟨g2, o2, rfl, hcf⟩ := HQ.out.2.2.2.cells (by omega)
        obtain ⟨d1, _⟩ := hce k e he
        obtain ⟨f1, _⟩ := hcf k f hf
        have HK : Hid (O[k]? = some e ∧ P[k]? = some f) := ⟨he, hf⟩
        have hz0 : decide ((k : Int) < (m : Int)) = true := by simp; omega
        have hzd : (k : Int) < (m : Int) := by omega
        clear hce hcf he hf
        by_cases hef : e.1 = f.1
        · have hee : (e.1 != f.1) = false := by simpa using hef
          have HN : Hid (∀ nq, (O.take (k + 1)).map (·.1) = (P.take (k + 1)).map (·.1) ∧ Below w.heap.size w (wr.drewN nq) ∧ PcsAt (wr.drewN nq) (some ⟨g1, o1, none⟩) m O ∧ PcsAt (wr.drewN nq) (some ⟨g2, o2, none⟩) m P) := fun nq => by
            refine ⟨?_, below_dn HQ.out.2.1 nq, HQ.out.2.2.1.below (below_dn (Below.refl _ _) nq), HQ.out.2.2.2.below (below_dn (Below.refl _ _) nq)⟩
            rw [take_get HK.out.1, take_get HK.out.2, List.map_append, List.map_append, HQ.out.1]
            simp [hef]
          clear hef HQ HK
          go_wp2_with fail
          go_quiet (fail)
          go_wp2
          go_roundg (gk - 1)
          case measure => omega
          case rel => exact ⟨k + 1, by omega, by go_num, HN.out _⟩
        · have hee : (e.1 != f.1) = true := by simpa using hef
          have HE : Hid (V = false ∧ Below w.heap.size w wr) := by
            refine ⟨?_, HQ.out.2.1⟩
            rw [HV.out]
            refine decide_eq_false fun hc => hef ?_
            have h1 : (O.map (·.1))[k]? = (P.map (·.1))[k]? := by rw [hc]
            rw [List.getElem?_map, List.getElem?_map, HK.out.1, HK.out.2] at h1
            simpa using h1
          clear hef HQ HK
          go_wp2_with fail
          go_quiet (fail)
          go_wp2
          go_ret
          exact ⟨by rw [HE.out.1]; rfl, below_dn HE.out.2 nq⟩
      · have hz0 : decide ((k : Int) < (m : Int)) = false := by simp; omega
        have HE : Hid (V = true ∧ Below w.heap.size w wr) := by
          refine ⟨?_, HQ.out.2.1⟩
          have h1 := HQ.out.1
          rw [List.take_of_length_le (by rw [HL.out.1]; omega), List.take_of_length_le (by rw [HL.out.2]; omega)] at h1
          rw [HV.out, decide_eq_true h1]
        clear HQ
        go_wp2
        go_ret
        exact ⟨by rw [HE.out.1]; rfl, HE.out.2⟩
  · have hne : ((m : Int) != (p : Int)) = true := by simp; omega
    have HE : Hid (V = false) := by
      show _ = _
      rw [HV.out]
      refine decide_eq_false fun hc => hmp ?_
      have h1 := congrArg List.length hc
      rw [List.length_map, List.length_map, HL.out.1, HL.out.2] at h1
      exact h1
    clear hmp
    go_wp2
    go_ret
    exact ⟨by rw [HE.out]; rfl, HX2.out.1⟩
theorem all_range {n : Nat} {F : Nat → Bool} : (List.range n).all F = true ↔ ∀ t, t < n → F t = true := by
  simp [List.all_eq_true]
theorem all_range_no {n k : Nat} {F : Nat → Bool} (hk : k < n) (h : F k = false) : (List.range n).all F = false := by
  cases h2 : (List.range n).all F with
  | false => rfl
  | true => rw [all_range.1 h2 k hk] at h; cases h
/-- What a third state says. -/
def ldT (vs : List Int) (l : List St) (a b t : Nat) : Bool := decide (t = a) || decide (t = b) || leadO vs l a b t
set_option maxRecDepth 20000 in
set_option maxHeartbeats 8000000 in
theorem leadA_calls (w : World) (base wb : Nat) (x : Rc) (vs : List Int) (y : Ly) (h : WkAt w base wb x vs y) (hok : SOk vs.length x.states) (a b : Nat) :
    Calls Try.prog 78 #[.pointer (some ⟨wb, 0, none⟩), .int .i64 (a : Int), .int .i64 (b : Int)] w fun e w' => e = .returned (.bool (leadA vs x.states a b)) ∧ Below w.heap.size w w' := by
  obtain ⟨n, hn⟩ : ∃ n, x.states.length = n := ⟨_, rfl⟩
  obtain ⟨ta, hta⟩ : ∃ ta, y.ta = ta := ⟨_, rfl⟩
  obtain ⟨tc, htc⟩ : ∃ tc, y.tc = tc := ⟨_, rfl⟩
  have HT : Hid (∀ W, Below w.heap.size w W → W.cell? ⟨wb, 10, none⟩ = some (.slice ta n tc)) := fun W hW => by
    rw [← hta, ← htc, ← hn]; exact (h.below hW).cell 10 _ rfl
  have HEd : Hid (∀ W (u : Int) (t : Nat), Below w.heap.size w W → t < n → Calls Try.prog 74 #[.pointer (some ⟨wb, 0, none⟩), .int .i64 u, .int .i64 (t : Int)] W fun e w' => e = .returned (.tuple #[.agg #[.int .i64 (edV (edgeB x.states u t)).1, .int .i64 (edV (edgeB x.states u t)).2], .bool (edgeB x.states u t).isSome]) ∧ Below W.heap.size W w') := fun W u t hW ht => edge_calls W base wb x vs y (h.below hW) u t (by rw [hn]; exact ht)
  have HCo : Hid (∀ W (u : Int) (t : Nat) (e : Int × Int), Below w.heap.size w W → t < n → edgeB x.states u t = some e → Calls Try.prog 76 #[.pointer (some ⟨wb, 0, none⟩), .agg #[.int .i64 e.1, .int .i64 e.2]] W fun r w' => r = .returned (.int .i64 (costN vs e.2)) ∧ Below W.heap.size W w') := fun W u t e hW ht he => by
    have hc := sok_costs hok _ (getD_mem (by rw [hn]; exact ht)) e (edge_mem he)
    exact cost_calls W base wb x vs y (h.below hW) e.1 e.2 (by omega) (by omega)
  have HV : Hid (leadA vs x.states a b = (List.range n).all (ldT vs x.states a b)) := by show _ = _; rw [leadA, hn]; rfl
  obtain ⟨V, hV⟩ : ∃ V, leadA vs x.states a b = V := ⟨_, rfl⟩
  rw [hV] at HV ⊢
  have hn9 : n ≤ 9 := by rw [← hn]; exact hok.1
  have c10 := HT.out w (Below.refl _ _)
  clear h hok hn hta htc hV
  go_enter Try.func78, Try.ntmps78
  go_wp2
  clear c10
  go_loopg [7, 8, 9, 10, 11, 18] n (fun q _ _ _ _ _ kv wr => ∃ (k : Nat), k + q = n ∧ kv = .int .i64 k ∧ Hid ((∀ t, t < k → ldT vs x.states a b t = true) ∧ Below w.heap.size w wr))
  case atStart => exact ⟨0, by omega, rfl, fun t ht => by omega, Below.refl _ _⟩
  case round =>
    obtain ⟨k, hkq, rfl, HQ⟩ := hrel
    by_cases hlt : k < n
    · have hz0 : decide ((k : Int) < (n : Int)) = true := by simp; omega
      have hzd : (k : Int) < (n : Int) := by omega
      by_cases hab : k = a ∨ k = b
      · have HN : Hid ((∀ t, t < k + 1 → ldT vs x.states a b t = true) ∧ Below w.heap.size w wr) := by
          refine ⟨fun t ht => ?_, HQ.out.2⟩
          by_cases htk : t = k
          · subst htk
            rcases hab with e | e <;> simp [ldT, e]
          · exact HQ.out.1 t (by omega)
        clear HQ
        by_cases hka : k = a
        · have h1 : ((k : Int) == (a : Int)) = true := beq_iff_eq.2 (by omega)
          clear hab hka
          go_wp2
          go_roundg (gk - 1)
          case measure => omega
          case rel => exact ⟨k + 1, by omega, by go_num, HN.out⟩
        · have h1 : ((k : Int) == (a : Int)) = false := beq_eq_false_iff_ne.2 (by omega)
          have h2 : ((k : Int) == (b : Int)) = true := beq_iff_eq.2 (by omega)
          clear hab hka
          go_wp2
          go_roundg (gk - 1)
          case measure => omega
          case rel => exact ⟨k + 1, by omega, by go_num, HN.out⟩
      · have h1 : ((k : Int) == (a : Int)) = false := beq_eq_false_iff_ne.2 (by omega)
        have h2 : ((k : Int) == (b : Int)) = false := beq_eq_false_iff_ne.2 (by omega)
        have HLd : Hid (ldT vs x.states a b k = leadO vs x.states a b k) := by
          show _ = _
          rw [ldT, decide_eq_false (by omega), decide_eq_false (by omega)]
          rfl
        have HE1 : Hid (Calls Try.prog 74 #[.pointer (some ⟨wb, 0, none⟩), .int .i64 (a : Int), .int .i64 (k : Int)] wr fun e w' => e = .returned (.tuple #[.agg #[.int .i64 (edV (edgeB x.states a k)).1, .int .i64 (edV (edgeB x.states a k)).2], .bool (edgeB x.states a k).isSome]) ∧ Below wr.heap.size wr w') := HEd.out wr a k HQ.out.2 hlt
        have HE2 : Hid (∀ W, Below w.heap.size w W → Calls Try.prog 74 #[.pointer (some ⟨wb, 0, none⟩), .int .i64 (b : Int), .int .i64 (k : Int)] W fun e w' => e = .returned (.tuple #[.agg #[.int .i64 (edV (edgeB x.states b k)).1, .int .i64 (edV (edgeB x.states b k)).2], .bool (edgeB x.states b k).isSome]) ∧ Below W.heap.size W w') := fun W hW => HEd.out W b k hW hlt
        have HC1 : Hid (∀ W e, Below w.heap.size w W → edgeB x.states a k = some e → Calls Try.prog 76 #[.pointer (some ⟨wb, 0, none⟩), .agg #[.int .i64 e.1, .int .i64 e.2]] W fun r w' => r = .returned (.int .i64 (costN vs e.2)) ∧ Below W.heap.size W w') := fun W e hW he => HCo.out W a k e hW hlt he
        have HC2 : Hid (∀ W e, Below w.heap.size w W → edgeB x.states b k = some e → Calls Try.prog 76 #[.pointer (some ⟨wb, 0, none⟩), .agg #[.int .i64 e.1, .int .i64 e.2]] W fun r w' => r = .returned (.int .i64 (costN vs e.2)) ∧ Below W.heap.size W w') := fun W e hW he => HCo.out W b k e hW hlt he
        have HLo : Hid (leadO vs x.states a b k = match edgeB x.states a k, edgeB x.states b k with | none, none => true | some p, some q => decide (costN vs p.2 = costN vs q.2) | _, _ => false) := rfl
        obtain ⟨A, hA⟩ : ∃ A, edgeB x.states a k = A := ⟨_, rfl⟩
        obtain ⟨B, hB⟩ : ∃ B, edgeB x.states b k = B := ⟨_, rfl⟩
        rw [hA] at HE1 HC1 HLo
        rw [hB] at HE2 HC2 HLo
        clear hab hA hB HEd HCo
        go_wp2_with fail
        refine HE1.out.mono ?_
        rintro e w1 ⟨rfl, hb1⟩
        go_upto_region 6 with (fail)
        obtain ⟨b1, hbb1⟩ : ∃ b1, w1.heap.size = b1 := ⟨_, rfl⟩
        obtain ⟨w2, hw2⟩ : ∃ w2, w2 = w1.alloc (.cells #[.int .i64 (edV A).1, .int .i64 (edV A).2] 49) := ⟨_, rfl⟩
        rw [← hw2, hbb1]
        have HB2 : Hid (Below w.heap.size w w2 ∧ w2.heap[b1]? = some (.cells #[.int .i64 (edV A).1, .int .i64 (edV A).2] 49 (0, 0))) := by
          have hl := HQ.out.2.trans (hb1.mono HQ.out.2.size)
          exact ⟨by rw [hw2]; exact hl.alloc hl.size _, by rw [hw2, ← hbb1]; exact heap_alloc_new w1 _⟩
        clear hb1 HE1 hw2 hbb1
        go_wp2_with fail
        refine (HE2.out w2 HB2.out.1).mono ?_
        rintro e w3 ⟨rfl, hb3⟩
        go_upto_region 7 with (fail)
        obtain ⟨b2, hbb2⟩ : ∃ b2, w3.heap.size = b2 := ⟨_, rfl⟩
        obtain ⟨w4, hw4⟩ : ∃ w4, w4 = w3.alloc (.cells #[.int .i64 (edV B).1, .int .i64 (edV B).2] 49) := ⟨_, rfl⟩
        rw [← hw4, hbb2]
        have HB4 : Hid (Below w.heap.size w w4 ∧ w4.heap[b1]? = some (.cells #[.int .i64 (edV A).1, .int .i64 (edV A).2] 49 (0, 0)) ∧ w4.heap[b2]? = some (.cells #[.int .i64 (edV B).1, .int .i64 (edV B).2] 49 (0, 0))) := by
          have h0 : Below w3.heap.size w3 w4 := by rw [hw4]; exact (Below.refl _ _).alloc (Nat.le_refl _) _
          have h1 := hb3.trans (h0.mono hb3.size)
          exact ⟨HB2.out.1.trans (h1.mono HB2.out.1.size), by rw [h1.block _ (lt_block HB2.out.2)]; exact HB2.out.2, by rw [hw4, ← hbb2]; exact heap_alloc_new w3 _⟩
        clear hb3 HE2 hw4 hbb2 HB2
        have HNext : Hid (leadO vs x.states a b k = true → ∀ W, Below w4.heap.size w4 W → (∀ t, t < k + 1 → ldT vs x.states a b t = true) ∧ Below w.heap.size w W) := fun hl W hW => by
          refine ⟨fun t ht => ?_, HB4.out.1.trans (hW.mono HB4.out.1.size)⟩
          by_cases htk : t = k
          · subst htk; rw [HLd.out]; exact hl
          · exact HQ.out.1 t (by omega)
        have HStop : Hid (leadO vs x.states a b k = false → ∀ W, Below w4.heap.size w4 W → V = false ∧ Below w.heap.size w W) := fun hl W hW => by
          refine ⟨?_, HB4.out.1.trans (hW.mono HB4.out.1.size)⟩
          rw [HV.out]
          exact all_range_no hlt (by rw [HLd.out]; exact hl)
        clear HQ HLd
        have hb0 : Below w4.heap.size w4 w4.drew := (Below.refl _ _).drew
        cases A with
        | none =>
          cases B with
          | none =>
            have HF : Hid (leadO vs x.states a b k = true) := HLo.out
            clear HLo HC1 HC2
            refine wp_region_Y (fun j => [].contains j) (fun W : World => True) (by kernel_rfl) ?_
            refine wpAnyY_pure (i := 0) 43 (v := .bool false) rfl rfl (by kernel_rfl) (by kernel_rfl) (by kernel_rfl) (fun _ _ _ h => h) (Or.inl ⟨by rfl, by (intro W _; go_simp)⟩) ?_
            simp only [Act.put, List.setIfInBounds_toArray, List.set_cons_succ, List.set_cons_zero]
            refine wpAnyY_pure (i := 1) 44 (v := .bool false) rfl rfl (by kernel_rfl) (by kernel_rfl) (by kernel_rfl) (fun _ _ _ h => h) (Or.inl ⟨by rfl, by (intro W _; go_simp)⟩) ?_
            simp only [Act.put, List.setIfInBounds_toArray, List.set_cons_succ, List.set_cons_zero]
            refine wpAnyY_pure (i := 2) 45 (v := .bool false) rfl rfl (by kernel_rfl) (by kernel_rfl) (by kernel_rfl) (fun _ _ _ h => h) (Or.inl ⟨by rfl, by (intro W _; go_simp)⟩) ?_
            simp only [Act.put, List.setIfInBounds_toArray, List.set_cons_succ, List.set_cons_zero]
            refine wpAnyY_pure (i := 3) 46 (v := .bool false) rfl rfl (by kernel_rfl) (by kernel_rfl) (by kernel_rfl) (fun _ _ _ h => h) (Or.inl ⟨by rfl, by (intro W _; go_simp)⟩) ?_
            simp only [Act.put, List.setIfInBounds_toArray, List.set_cons_succ, List.set_cons_zero]
            refine wpAnyY_pure (i := 4) 47 (v := .bool false) rfl rfl (by kernel_rfl) (by kernel_rfl) (by kernel_rfl) (fun _ _ _ h => h) (Or.inl ⟨by rfl, by (intro W _; go_simp)⟩) ?_
            simp only [Act.put, List.setIfInBounds_toArray, List.set_cons_succ, List.set_cons_zero]
            refine wpAnyY_pure (i := 5) 48 (v := .bool false) rfl rfl (by kernel_rfl) (by kernel_rfl) (by kernel_rfl) (fun _ _ _ h => h) (Or.inl ⟨by rfl, by (intro W _; go_simp)⟩) ?_
            simp only [Act.put, List.setIfInBounds_toArray, List.set_cons_succ, List.set_cons_zero]
            refine wpAnyY_pure (i := 6) 49 (v := undef) rfl rfl (by kernel_rfl) (by kernel_rfl) (by kernel_rfl) (fun _ _ _ h => h) (Or.inr ⟨by rfl, rfl⟩) ?_
            simp only [Act.put, List.setIfInBounds_toArray, List.set_cons_succ, List.set_cons_zero]
            refine wpAnyY_pure (i := 7) 50 (v := undef) rfl rfl (by kernel_rfl) (by kernel_rfl) (by kernel_rfl) (fun _ _ _ h => h) (Or.inr ⟨by rfl, rfl⟩) ?_
            simp only [Act.put, List.setIfInBounds_toArray, List.set_cons_succ, List.set_cons_zero]
            refine wpAnyY_pure (i := 8) 51 (v := undef) rfl rfl (by kernel_rfl) (by kernel_rfl) (by kernel_rfl) (fun _ _ _ h => h) (Or.inr ⟨by rfl, rfl⟩) ?_
            simp only [Act.put, List.setIfInBounds_toArray, List.set_cons_succ, List.set_cons_zero]
            refine wpAnyY_pure (i := 9) 52 (v := undef) rfl rfl (by kernel_rfl) (by kernel_rfl) (by kernel_rfl) (fun _ _ _ h => h) (Or.inr ⟨by rfl, rfl⟩) ?_
            simp only [Act.put, List.setIfInBounds_toArray, List.set_cons_succ, List.set_cons_zero]
            refine wpAnyY_pure (i := 10) 53 (v := undef) rfl rfl (by kernel_rfl) (by kernel_rfl) (by kernel_rfl) (fun _ _ _ h => h) (Or.inr ⟨by rfl, rfl⟩) ?_
            simp only [Act.put, List.setIfInBounds_toArray, List.set_cons_succ, List.set_cons_zero]
            refine wpAnyY_pure (i := 11) 54 (v := undef) rfl rfl (by kernel_rfl) (by kernel_rfl) (by kernel_rfl) (fun _ _ _ h => h) (Or.inr ⟨by rfl, rfl⟩) ?_
            simp only [Act.put, List.setIfInBounds_toArray, List.set_cons_succ, List.set_cons_zero]
            refine wpAnyY_pure (i := 12) 55 (v := undef) rfl rfl (by kernel_rfl) (by kernel_rfl) (by kernel_rfl) (fun _ _ _ h => h) (Or.inr ⟨by rfl, rfl⟩) ?_
            simp only [Act.put, List.setIfInBounds_toArray, List.set_cons_succ, List.set_cons_zero]
            refine wpAnyY_pure (i := 13) 56 (v := .bool false) rfl rfl (by kernel_rfl) (by kernel_rfl) (by kernel_rfl) (fun _ _ _ h => h) (Or.inl ⟨by rfl, by (intro W _; go_simp)⟩) ?_
            simp only [Act.put, List.setIfInBounds_toArray, List.set_cons_succ, List.set_cons_zero]
            refine wpAnyY_pure (i := 14) 57 (v := .bool false) rfl rfl (by kernel_rfl) (by kernel_rfl) (by kernel_rfl) (fun _ _ _ h => h) (Or.inl ⟨by rfl, by (intro W _; go_simp)⟩) ?_
            simp only [Act.put, List.setIfInBounds_toArray, List.set_cons_succ, List.set_cons_zero]
            refine wpAnyY_done (by kernel_rfl) ?_ _
            have HN : Hid ((∀ t, t < k + 1 → ldT vs x.states a b t = true) ∧ Below w.heap.size w w4.drew) := HNext.out HF.out _ hb0
            clear HNext HStop HF
            go_wp2
            go_roundg (gk - 1)
            case measure => omega
            case rel => exact ⟨k + 1, by omega, by go_num, HN.out⟩
          | some q =>
            have HF : Hid (leadO vs x.states a b k = false) := HLo.out
            clear HLo HC1 HC2
            refine wp_region_Y (fun j => [].contains j) (fun W : World => True) (by kernel_rfl) ?_
            refine wpAnyY_pure (i := 0) 43 (v := .bool false) rfl rfl (by kernel_rfl) (by kernel_rfl) (by kernel_rfl) (fun _ _ _ h => h) (Or.inl ⟨by rfl, by (intro W _; go_simp)⟩) ?_
            simp only [Act.put, List.setIfInBounds_toArray, List.set_cons_succ, List.set_cons_zero]
            refine wpAnyY_pure (i := 1) 44 (v := .bool true) rfl rfl (by kernel_rfl) (by kernel_rfl) (by kernel_rfl) (fun _ _ _ h => h) (Or.inl ⟨by rfl, by (intro W _; go_simp)⟩) ?_
            simp only [Act.put, List.setIfInBounds_toArray, List.set_cons_succ, List.set_cons_zero]
            refine wpAnyY_pure (i := 2) 45 (v := .bool true) rfl rfl (by kernel_rfl) (by kernel_rfl) (by kernel_rfl) (fun _ _ _ h => h) (Or.inl ⟨by rfl, by (intro W _; go_simp)⟩) ?_
            simp only [Act.put, List.setIfInBounds_toArray, List.set_cons_succ, List.set_cons_zero]
            refine wpAnyY_pure (i := 3) 46 (v := .bool true) rfl rfl (by kernel_rfl) (by kernel_rfl) (by kernel_rfl) (fun _ _ _ h => h) (Or.inl ⟨by rfl, by (intro W _; go_simp)⟩) ?_
            simp only [Act.put, List.setIfInBounds_toArray, List.set_cons_succ, List.set_cons_zero]
            refine wpAnyY_pure (i := 4) 47 (v := undef) rfl rfl (by kernel_rfl) (by kernel_rfl) (by kernel_rfl) (fun _ _ _ h => h) (Or.inr ⟨by rfl, rfl⟩) ?_
            simp only [Act.put, List.setIfInBounds_toArray, List.set_cons_succ, List.set_cons_zero]
            refine wpAnyY_pure (i := 5) 48 (v := undef) rfl rfl (by kernel_rfl) (by kernel_rfl) (by kernel_rfl) (fun _ _ _ h => h) (Or.inr ⟨by rfl, rfl⟩) ?_
            simp only [Act.put, List.setIfInBounds_toArray, List.set_cons_succ, List.set_cons_zero]
            refine wpAnyY_pure (i := 6) 49 (v := undef) rfl rfl (by kernel_rfl) (by kernel_rfl) (by kernel_rfl) (fun _ _ _ h => h) (Or.inr ⟨by rfl, rfl⟩) ?_
            simp only [Act.put, List.setIfInBounds_toArray, List.set_cons_succ, List.set_cons_zero]
            refine wpAnyY_pure (i := 7) 50 (v := undef) rfl rfl (by kernel_rfl) (by kernel_rfl) (by kernel_rfl) (fun _ _ _ h => h) (Or.inr ⟨by rfl, rfl⟩) ?_
            simp only [Act.put, List.setIfInBounds_toArray, List.set_cons_succ, List.set_cons_zero]
            refine wpAnyY_pure (i := 8) 51 (v := undef) rfl rfl (by kernel_rfl) (by kernel_rfl) (by kernel_rfl) (fun _ _ _ h => h) (Or.inr ⟨by rfl, rfl⟩) ?_
            simp only [Act.put, List.setIfInBounds_toArray, List.set_cons_succ, List.set_cons_zero]
            refine wpAnyY_pure (i := 9) 52 (v := undef) rfl rfl (by kernel_rfl) (by kernel_rfl) (by kernel_rfl) (fun _ _ _ h => h) (Or.inr ⟨by rfl, rfl⟩) ?_
            simp only [Act.put, List.setIfInBounds_toArray, List.set_cons_succ, List.set_cons_zero]
            refine wpAnyY_pure (i := 10) 53 (v := undef) rfl rfl (by kernel_rfl) (by kernel_rfl) (by kernel_rfl) (fun _ _ _ h => h) (Or.inr ⟨by rfl, rfl⟩) ?_
            simp only [Act.put, List.setIfInBounds_toArray, List.set_cons_succ, List.set_cons_zero]
            refine wpAnyY_pure (i := 11) 54 (v := undef) rfl rfl (by kernel_rfl) (by kernel_rfl) (by kernel_rfl) (fun _ _ _ h => h) (Or.inr ⟨by rfl, rfl⟩) ?_
            simp only [Act.put, List.setIfInBounds_toArray, List.set_cons_succ, List.set_cons_zero]
            refine wpAnyY_pure (i := 12) 55 (v := undef) rfl rfl (by kernel_rfl) (by kernel_rfl) (by kernel_rfl) (fun _ _ _ h => h) (Or.inr ⟨by rfl, rfl⟩) ?_
            simp only [Act.put, List.setIfInBounds_toArray, List.set_cons_succ, List.set_cons_zero]
            refine wpAnyY_pure (i := 13) 56 (v := undef) rfl rfl (by kernel_rfl) (by kernel_rfl) (by kernel_rfl) (fun _ _ _ h => h) (Or.inr ⟨by rfl, rfl⟩) ?_
            simp only [Act.put, List.setIfInBounds_toArray, List.set_cons_succ, List.set_cons_zero]
            refine wpAnyY_pure (i := 14) 57 (v := .bool true) rfl rfl (by kernel_rfl) (by kernel_rfl) (by kernel_rfl) (fun _ _ _ h => h) (Or.inl ⟨by rfl, by (intro W _; go_simp)⟩) ?_
            simp only [Act.put, List.setIfInBounds_toArray, List.set_cons_succ, List.set_cons_zero]
            refine wpAnyY_done (by kernel_rfl) ?_ _
            have HE : Hid (V = false ∧ Below w.heap.size w w4.drew) := HStop.out HF.out _ hb0
            clear HNext HStop HF
            go_wp2
            go_ret
            exact ⟨by rw [HE.out.1]; rfl, HE.out.2⟩
        | some p =>
          cases B with
          | none =>
            have HF : Hid (leadO vs x.states a b k = false) := HLo.out
            clear HLo HC1 HC2
            refine wp_region_Y (fun j => [].contains j) (fun W : World => True) (by kernel_rfl) ?_
            refine wpAnyY_pure (i := 0) 43 (v := .bool true) rfl rfl (by kernel_rfl) (by kernel_rfl) (by kernel_rfl) (fun _ _ _ h => h) (Or.inl ⟨by rfl, by (intro W _; go_simp)⟩) ?_
            simp only [Act.put, List.setIfInBounds_toArray, List.set_cons_succ, List.set_cons_zero]
            refine wpAnyY_pure (i := 1) 44 (v := .bool false) rfl rfl (by kernel_rfl) (by kernel_rfl) (by kernel_rfl) (fun _ _ _ h => h) (Or.inl ⟨by rfl, by (intro W _; go_simp)⟩) ?_
            simp only [Act.put, List.setIfInBounds_toArray, List.set_cons_succ, List.set_cons_zero]
            refine wpAnyY_pure (i := 2) 45 (v := .bool true) rfl rfl (by kernel_rfl) (by kernel_rfl) (by kernel_rfl) (fun _ _ _ h => h) (Or.inl ⟨by rfl, by (intro W _; go_simp)⟩) ?_
            simp only [Act.put, List.setIfInBounds_toArray, List.set_cons_succ, List.set_cons_zero]
            refine wpAnyY_pure (i := 3) 46 (v := .bool true) rfl rfl (by kernel_rfl) (by kernel_rfl) (by kernel_rfl) (fun _ _ _ h => h) (Or.inl ⟨by rfl, by (intro W _; go_simp)⟩) ?_
            simp only [Act.put, List.setIfInBounds_toArray, List.set_cons_succ, List.set_cons_zero]
            refine wpAnyY_pure (i := 4) 47 (v := undef) rfl rfl (by kernel_rfl) (by kernel_rfl) (by kernel_rfl) (fun _ _ _ h => h) (Or.inr ⟨by rfl, rfl⟩) ?_
            simp only [Act.put, List.setIfInBounds_toArray, List.set_cons_succ, List.set_cons_zero]
            refine wpAnyY_pure (i := 5) 48 (v := undef) rfl rfl (by kernel_rfl) (by kernel_rfl) (by kernel_rfl) (fun _ _ _ h => h) (Or.inr ⟨by rfl, rfl⟩) ?_
            simp only [Act.put, List.setIfInBounds_toArray, List.set_cons_succ, List.set_cons_zero]
            refine wpAnyY_pure (i := 6) 49 (v := undef) rfl rfl (by kernel_rfl) (by kernel_rfl) (by kernel_rfl) (fun _ _ _ h => h) (Or.inr ⟨by rfl, rfl⟩) ?_
            simp only [Act.put, List.setIfInBounds_toArray, List.set_cons_succ, List.set_cons_zero]
            refine wpAnyY_pure (i := 7) 50 (v := undef) rfl rfl (by kernel_rfl) (by kernel_rfl) (by kernel_rfl) (fun _ _ _ h => h) (Or.inr ⟨by rfl, rfl⟩) ?_
            simp only [Act.put, List.setIfInBounds_toArray, List.set_cons_succ, List.set_cons_zero]
            refine wpAnyY_pure (i := 8) 51 (v := undef) rfl rfl (by kernel_rfl) (by kernel_rfl) (by kernel_rfl) (fun _ _ _ h => h) (Or.inr ⟨by rfl, rfl⟩) ?_
            simp only [Act.put, List.setIfInBounds_toArray, List.set_cons_succ, List.set_cons_zero]
            refine wpAnyY_pure (i := 9) 52 (v := undef) rfl rfl (by kernel_rfl) (by kernel_rfl) (by kernel_rfl) (fun _ _ _ h => h) (Or.inr ⟨by rfl, rfl⟩) ?_
            simp only [Act.put, List.setIfInBounds_toArray, List.set_cons_succ, List.set_cons_zero]
            refine wpAnyY_pure (i := 10) 53 (v := undef) rfl rfl (by kernel_rfl) (by kernel_rfl) (by kernel_rfl) (fun _ _ _ h => h) (Or.inr ⟨by rfl, rfl⟩) ?_
            simp only [Act.put, List.setIfInBounds_toArray, List.set_cons_succ, List.set_cons_zero]
            refine wpAnyY_pure (i := 11) 54 (v := undef) rfl rfl (by kernel_rfl) (by kernel_rfl) (by kernel_rfl) (fun _ _ _ h => h) (Or.inr ⟨by rfl, rfl⟩) ?_
            simp only [Act.put, List.setIfInBounds_toArray, List.set_cons_succ, List.set_cons_zero]
            refine wpAnyY_pure (i := 12) 55 (v := undef) rfl rfl (by kernel_rfl) (by kernel_rfl) (by kernel_rfl) (fun _ _ _ h => h) (Or.inr ⟨by rfl, rfl⟩) ?_
            simp only [Act.put, List.setIfInBounds_toArray, List.set_cons_succ, List.set_cons_zero]
            refine wpAnyY_pure (i := 13) 56 (v := undef) rfl rfl (by kernel_rfl) (by kernel_rfl) (by kernel_rfl) (fun _ _ _ h => h) (Or.inr ⟨by rfl, rfl⟩) ?_
            simp only [Act.put, List.setIfInBounds_toArray, List.set_cons_succ, List.set_cons_zero]
            refine wpAnyY_pure (i := 14) 57 (v := .bool true) rfl rfl (by kernel_rfl) (by kernel_rfl) (by kernel_rfl) (fun _ _ _ h => h) (Or.inl ⟨by rfl, by (intro W _; go_simp)⟩) ?_
            simp only [Act.put, List.setIfInBounds_toArray, List.set_cons_succ, List.set_cons_zero]
            refine wpAnyY_done (by kernel_rfl) ?_ _
            have HE : Hid (V = false ∧ Below w.heap.size w w4.drew) := HStop.out HF.out _ hb0
            clear HNext HStop HF
            go_wp2
            go_ret
            exact ⟨by rw [HE.out.1]; rfl, HE.out.2⟩
          | some q =>
            have HS1 : Hid (∀ W, Below w4.heap.size w4 W → W.cell? ⟨b1, 0, none⟩ = some (.int .i64 p.1) ∧ W.cell? ⟨b1, 1, none⟩ = some (.int .i64 p.2) ∧ W.cell? ⟨b2, 0, none⟩ = some (.int .i64 q.1) ∧ W.cell? ⟨b2, 1, none⟩ = some (.int .i64 q.2)) := fun W hW => by
              have g1 : W.heap[b1]? = _ := (hW.block _ (lt_block HB4.out.2.1)).trans HB4.out.2.1
              have g2 : W.heap[b2]? = _ := (hW.block _ (lt_block HB4.out.2.2)).trans HB4.out.2.2
              exact ⟨blk g1 rfl, blk g1 rfl, blk g2 rfl, blk g2 rfl⟩
            have hs0 := HS1.out w4.drew hb0
            have HP : Hid (Calls Try.prog 76 #[.pointer (some ⟨wb, 0, none⟩), .agg #[.int .i64 p.1, .int .i64 p.2]] w4.drew fun r w' => r = .returned (.int .i64 (costN vs p.2)) ∧ Below w4.drew.heap.size w4.drew w') := HC1.out _ p (HB4.out.1.trans (hb0.mono HB4.out.1.size)) rfl
            have HQQ : Hid (∀ W, Below w4.heap.size w4 W → Calls Try.prog 76 #[.pointer (some ⟨wb, 0, none⟩), .agg #[.int .i64 q.1, .int .i64 q.2]] W fun r w' => r = .returned (.int .i64 (costN vs q.2)) ∧ Below W.heap.size W w') := fun W hW => HC2.out W q (HB4.out.1.trans (hW.mono HB4.out.1.size)) rfl
            have HLq : Hid (leadO vs x.states a b k = decide (costN vs p.2 = costN vs q.2)) := HLo.out
            obtain ⟨cp, hcp⟩ : ∃ cp, costN vs p.2 = cp := ⟨_, rfl⟩
            obtain ⟨cq, hcq⟩ : ∃ cq, costN vs q.2 = cq := ⟨_, rfl⟩
            rw [hcp] at HP HLq
            rw [hcq] at HQQ HLq
            clear hcp hcq HLo HC1 HC2 HB4
            by_cases hpq : cp = cq
            · have HF : Hid (leadO vs x.states a b k = true) := by show _ = _; rw [HLq.out]; simp [hpq]
              have hpe : (cp != cq) = false := by simpa using hpq
              clear hpq HLq
              refine wp_region_Y (fun j => [].contains j) (fun W : World => W.cell? ⟨b1, 0, none⟩ = some (.int .i64 p.1) ∧ W.cell? ⟨b1, 1, none⟩ = some (.int .i64 p.2) ∧ W.cell? ⟨b2, 0, none⟩ = some (.int .i64 q.1) ∧ W.cell? ⟨b2, 1, none⟩ = some (.int .i64 q.2)) (by kernel_rfl) ?_
              refine wpAnyY_pure (i := 0) 43 (v := .bool true) rfl rfl (by kernel_rfl) (by kernel_rfl) (by kernel_rfl) (fun _ _ _ h => h) (Or.inl ⟨by rfl, by (intro W _; go_simp)⟩) ?_
              simp only [Act.put, List.setIfInBounds_toArray, List.set_cons_succ, List.set_cons_zero]
              refine wpAnyY_pure (i := 1) 44 (v := .bool true) rfl rfl (by kernel_rfl) (by kernel_rfl) (by kernel_rfl) (fun _ _ _ h => h) (Or.inl ⟨by rfl, by (intro W _; go_simp)⟩) ?_
              simp only [Act.put, List.setIfInBounds_toArray, List.set_cons_succ, List.set_cons_zero]
              refine wpAnyY_pure (i := 2) 45 (v := .bool false) rfl rfl (by kernel_rfl) (by kernel_rfl) (by kernel_rfl) (fun _ _ _ h => h) (Or.inl ⟨by rfl, by (intro W _; go_simp)⟩) ?_
              simp only [Act.put, List.setIfInBounds_toArray, List.set_cons_succ, List.set_cons_zero]
              refine wpAnyY_pure (i := 3) 46 (v := .bool false) rfl rfl (by kernel_rfl) (by kernel_rfl) (by kernel_rfl) (fun _ _ _ h => h) (Or.inl ⟨by rfl, by (intro W _; go_simp)⟩) ?_
              simp only [Act.put, List.setIfInBounds_toArray, List.set_cons_succ, List.set_cons_zero]
              refine wpAnyY_pure (i := 4) 47 (v := .bool true) rfl rfl (by kernel_rfl) (by kernel_rfl) (by kernel_rfl) (fun _ _ _ h => h) (Or.inl ⟨by rfl, by (intro W _; go_simp)⟩) ?_
              simp only [Act.put, List.setIfInBounds_toArray, List.set_cons_succ, List.set_cons_zero]
              refine wpAnyY_pure (i := 5) 48 (v := .bool true) rfl rfl (by kernel_rfl) (by kernel_rfl) (by kernel_rfl) (fun _ _ _ h => h) (Or.inl ⟨by rfl, by (intro W _; go_simp)⟩) ?_
              simp only [Act.put, List.setIfInBounds_toArray, List.set_cons_succ, List.set_cons_zero]
              refine wpAnyY_pure (i := 6) 49 (v := .pointer (some ⟨wb, 0, none⟩)) rfl rfl (by kernel_rfl) (by kernel_rfl) (by kernel_rfl) (fun _ _ _ h => h) (Or.inl ⟨by rfl, by (intro W _; go_simp)⟩) ?_
              simp only [Act.put, List.setIfInBounds_toArray, List.set_cons_succ, List.set_cons_zero]
              refine wpAnyY_takeD (i := 7) 50 (v := .agg #[.int .i64 p.1, .int .i64 p.2]) rfl rfl (by kernel_rfl) (by kernel_rfl) (late_of (by kernel_rfl)) (by kernel_rfl) (by kernel_rfl) (fun _ _ _ h => h) hs0 (Or.inl ⟨by rfl, by (intro W hW; obtain ⟨s0, s1, s2, s3⟩ := hW; go_simp)⟩) ?_
              simp only [Act.put, List.setIfInBounds_toArray, List.set_cons_succ, List.set_cons_zero]
              refine wpAnyY_pure (i := 9) 52 (v := .pointer (some ⟨wb, 0, none⟩)) rfl rfl (by kernel_rfl) (by kernel_rfl) (by kernel_rfl) (fun _ _ _ h => h) (Or.inl ⟨by rfl, by (intro W _; go_simp)⟩) ?_
              simp only [Act.put, List.setIfInBounds_toArray, List.set_cons_succ, List.set_cons_zero]
              refine wpAnyY_takeD (i := 10) 53 (v := .agg #[.int .i64 q.1, .int .i64 q.2]) rfl rfl (by kernel_rfl) (by kernel_rfl) (late_of (by kernel_rfl)) (by kernel_rfl) (by kernel_rfl) (fun _ _ _ h => h) hs0 (Or.inl ⟨by rfl, by (intro W hW; obtain ⟨s0, s1, s2, s3⟩ := hW; go_simp)⟩) ?_
              simp only [Act.put, List.setIfInBounds_toArray, List.set_cons_succ, List.set_cons_zero]
              refine wpAnyY_one (i := 8) rfl (by kernel_rfl) (fun Kc hKc => ?_)
              refine step_fnw (by rfl) 76 _ _ rfl Try.f76 Try.func76 (by kernel_rfl) (by kernel_rfl) #[.pointer (some ⟨wb, 0, none⟩), .agg #[.int .i64 p.1, .int .i64 p.2]] (by simp [Act.eval]) (HP.out) ?_
              rintro e w5 ⟨rfl, hb5⟩
              have HX5 : Hid (Below w4.heap.size w4 w5) := hb0.trans hb5
              clear hb5
              refine ⟨_, rfl, hKc.out _ _ (fun _ _ => HS1.out _ HX5.out) ?_⟩
              clear hKc Kc
              simp only [Act.put]
              refine wpAnyY_one (i := 11) rfl (by kernel_rfl) (fun Kc hKc => ?_)
              refine step_fnw (by rfl) 76 _ _ rfl Try.f76 Try.func76 (by kernel_rfl) (by kernel_rfl) #[.pointer (some ⟨wb, 0, none⟩), .agg #[.int .i64 q.1, .int .i64 q.2]] (by simp [Act.eval]) (HQQ.out w5 HX5.out) ?_
              rintro e w6 ⟨rfl, hb6⟩
              have HX6 : Hid (Below w4.heap.size w4 w6) := HX5.out.trans (hb6.mono HX5.out.size)
              clear hb6
              refine ⟨_, rfl, hKc.out _ _ (fun _ _ => HS1.out _ HX6.out) ?_⟩
              clear hKc Kc
              simp only [Act.put]
              refine wpAnyY_pure (i := 12) 55 (v := .bool false) rfl rfl (by kernel_rfl) (by kernel_rfl) (by kernel_rfl) (fun _ _ _ h => h) (Or.inl ⟨by rfl, by (intro W _; go_simp)⟩) ?_
              simp only [Act.put, List.setIfInBounds_toArray]
              refine wpAnyY_pure (i := 13) 56 (v := .bool false) rfl rfl (by kernel_rfl) (by kernel_rfl) (by kernel_rfl) (fun _ _ _ h => h) (Or.inl ⟨by rfl, by (intro W _; go_simp)⟩) ?_
              simp only [Act.put]
              refine wpAnyY_pure (i := 14) 57 (v := .bool false) rfl rfl (by kernel_rfl) (by kernel_rfl) (by kernel_rfl) (fun _ _ _ h => h) (Or.inl ⟨by rfl, by (intro W _; go_simp)⟩) ?_
              simp only [Act.put]
              refine wpAnyY_done (by kernel_rfl) ?_ _
              clear hs0 HS1 HP HQQ hpe
              have HN : Hid ((∀ t, t < k + 1 → ldT vs x.states a b t = true) ∧ Below w.heap.size w w6) := HNext.out HF.out _ HX6.out
              clear HNext HStop HF
              go_wp2
              go_roundg (gk - 1)
              case measure => omega
              case rel => exact ⟨k + 1, by omega, by go_num, HN.out⟩
            · have HF : Hid (leadO vs x.states a b k = false) := by show _ = _; rw [HLq.out]; simp [hpq]
              have hpe : (cp != cq) = true := by simpa using hpq
              clear hpq HLq
              refine wp_region_Y (fun j => [].contains j) (fun W : World => W.cell? ⟨b1, 0, none⟩ = some (.int .i64 p.1) ∧ W.cell? ⟨b1, 1, none⟩ = some (.int .i64 p.2) ∧ W.cell? ⟨b2, 0, none⟩ = some (.int .i64 q.1) ∧ W.cell? ⟨b2, 1, none⟩ = some (.int .i64 q.2)) (by kernel_rfl) ?_
              refine wpAnyY_pure (i := 0) 43 (v := .bool true) rfl rfl (by kernel_rfl) (by kernel_rfl) (by kernel_rfl) (fun _ _ _ h => h) (Or.inl ⟨by rfl, by (intro W _; go_simp)⟩) ?_
              simp only [Act.put, List.setIfInBounds_toArray, List.set_cons_succ, List.set_cons_zero]
              refine wpAnyY_pure (i := 1) 44 (v := .bool true) rfl rfl (by kernel_rfl) (by kernel_rfl) (by kernel_rfl) (fun _ _ _ h => h) (Or.inl ⟨by rfl, by (intro W _; go_simp)⟩) ?_
              simp only [Act.put, List.setIfInBounds_toArray, List.set_cons_succ, List.set_cons_zero]
              refine wpAnyY_pure (i := 2) 45 (v := .bool false) rfl rfl (by kernel_rfl) (by kernel_rfl) (by kernel_rfl) (fun _ _ _ h => h) (Or.inl ⟨by rfl, by (intro W _; go_simp)⟩) ?_
              simp only [Act.put, List.setIfInBounds_toArray, List.set_cons_succ, List.set_cons_zero]
              refine wpAnyY_pure (i := 3) 46 (v := .bool false) rfl rfl (by kernel_rfl) (by kernel_rfl) (by kernel_rfl) (fun _ _ _ h => h) (Or.inl ⟨by rfl, by (intro W _; go_simp)⟩) ?_
              simp only [Act.put, List.setIfInBounds_toArray, List.set_cons_succ, List.set_cons_zero]
              refine wpAnyY_pure (i := 4) 47 (v := .bool true) rfl rfl (by kernel_rfl) (by kernel_rfl) (by kernel_rfl) (fun _ _ _ h => h) (Or.inl ⟨by rfl, by (intro W _; go_simp)⟩) ?_
              simp only [Act.put, List.setIfInBounds_toArray, List.set_cons_succ, List.set_cons_zero]
              refine wpAnyY_pure (i := 5) 48 (v := .bool true) rfl rfl (by kernel_rfl) (by kernel_rfl) (by kernel_rfl) (fun _ _ _ h => h) (Or.inl ⟨by rfl, by (intro W _; go_simp)⟩) ?_
              simp only [Act.put, List.setIfInBounds_toArray, List.set_cons_succ, List.set_cons_zero]
              refine wpAnyY_pure (i := 6) 49 (v := .pointer (some ⟨wb, 0, none⟩)) rfl rfl (by kernel_rfl) (by kernel_rfl) (by kernel_rfl) (fun _ _ _ h => h) (Or.inl ⟨by rfl, by (intro W _; go_simp)⟩) ?_
              simp only [Act.put, List.setIfInBounds_toArray, List.set_cons_succ, List.set_cons_zero]
              refine wpAnyY_takeD (i := 7) 50 (v := .agg #[.int .i64 p.1, .int .i64 p.2]) rfl rfl (by kernel_rfl) (by kernel_rfl) (late_of (by kernel_rfl)) (by kernel_rfl) (by kernel_rfl) (fun _ _ _ h => h) hs0 (Or.inl ⟨by rfl, by (intro W hW; obtain ⟨s0, s1, s2, s3⟩ := hW; go_simp)⟩) ?_
              simp only [Act.put, List.setIfInBounds_toArray, List.set_cons_succ, List.set_cons_zero]
              refine wpAnyY_pure (i := 9) 52 (v := .pointer (some ⟨wb, 0, none⟩)) rfl rfl (by kernel_rfl) (by kernel_rfl) (by kernel_rfl) (fun _ _ _ h => h) (Or.inl ⟨by rfl, by (intro W _; go_simp)⟩) ?_
              simp only [Act.put, List.setIfInBounds_toArray, List.set_cons_succ, List.set_cons_zero]
              refine wpAnyY_takeD (i := 10) 53 (v := .agg #[.int .i64 q.1, .int .i64 q.2]) rfl rfl (by kernel_rfl) (by kernel_rfl) (late_of (by kernel_rfl)) (by kernel_rfl) (by kernel_rfl) (fun _ _ _ h => h) hs0 (Or.inl ⟨by rfl, by (intro W hW; obtain ⟨s0, s1, s2, s3⟩ := hW; go_simp)⟩) ?_
              simp only [Act.put, List.setIfInBounds_toArray, List.set_cons_succ, List.set_cons_zero]
              refine wpAnyY_one (i := 8) rfl (by kernel_rfl) (fun Kc hKc => ?_)
              refine step_fnw (by rfl) 76 _ _ rfl Try.f76 Try.func76 (by kernel_rfl) (by kernel_rfl) #[.pointer (some ⟨wb, 0, none⟩), .agg #[.int .i64 p.1, .int .i64 p.2]] (by simp [Act.eval]) (HP.out) ?_
              rintro e w5 ⟨rfl, hb5⟩
              have HX5 : Hid (Below w4.heap.size w4 w5) := hb0.trans hb5
              clear hb5
              refine ⟨_, rfl, hKc.out _ _ (fun _ _ => HS1.out _ HX5.out) ?_⟩
              clear hKc Kc
              simp only [Act.put]
              refine wpAnyY_one (i := 11) rfl (by kernel_rfl) (fun Kc hKc => ?_)
              refine step_fnw (by rfl) 76 _ _ rfl Try.f76 Try.func76 (by kernel_rfl) (by kernel_rfl) #[.pointer (some ⟨wb, 0, none⟩), .agg #[.int .i64 q.1, .int .i64 q.2]] (by simp [Act.eval]) (HQQ.out w5 HX5.out) ?_
              rintro e w6 ⟨rfl, hb6⟩
              have HX6 : Hid (Below w4.heap.size w4 w6) := HX5.out.trans (hb6.mono HX5.out.size)
              clear hb6
              refine ⟨_, rfl, hKc.out _ _ (fun _ _ => HS1.out _ HX6.out) ?_⟩
              clear hKc Kc
              simp only [Act.put]
              refine wpAnyY_pure (i := 12) 55 (v := .bool true) rfl rfl (by kernel_rfl) (by kernel_rfl) (by kernel_rfl) (fun _ _ _ h => h) (Or.inl ⟨by rfl, by (intro W _; go_simp)⟩) ?_
              simp only [Act.put, List.setIfInBounds_toArray]
              refine wpAnyY_pure (i := 13) 56 (v := .bool true) rfl rfl (by kernel_rfl) (by kernel_rfl) (by kernel_rfl) (fun _ _ _ h => h) (Or.inl ⟨by rfl, by (intro W _; go_simp)⟩) ?_
              simp only [Act.put]
              refine wpAnyY_pure (i := 14) 57 (v := .bool true) rfl rfl (by kernel_rfl) (by kernel_rfl) (by kernel_rfl) (fun _ _ _ h => h) (Or.inl ⟨by rfl, by (intro W _; go_simp)⟩) ?_
              simp only [Act.put]
              refine wpAnyY_done (by kernel_rfl) ?_ _
              clear hs0 HS1 HP HQQ hpe
              have HE : Hid (V = false ∧ Below w.heap.size w w6) := HStop.out HF.out _ HX6.out
              clear HNext HStop HF
              go_wp2
              go_ret
              exact ⟨by rw [HE.out.1]; rfl, HE.out.2⟩
    · have hz0 : decide ((k : Int) < (n : Int)) = false := by simp; omega
      have HE : Hid (V = true ∧ Below w.heap.size w wr) := by
        refine ⟨?_, HQ.out.2⟩
        rw [HV.out]
        exact all_range.2 fun t ht => HQ.out.1 t (by omega)
      clear HQ
      go_wp2
      go_ret
      exact ⟨by rw [HE.out.1]; rfl, HE.out.2⟩
end Go.Proofs.Ytolehoibpnenlaa
