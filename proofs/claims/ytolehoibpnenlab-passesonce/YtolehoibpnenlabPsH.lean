/-
  Fold.
-/
import Derived.Test.YtolehoibpnenlabMl
namespace Go.Proofs.Ytolehoibpnenlab
open Go.RowKit Go.Deep Go.Maps

theorem step_append_opt {P : Program} {ops : Array Oper} {o : Oper} {a : Act} {w : World} {K : Act → World → Prop} {Q : Exit → Act → World → Prop} {E : Prop}
    (hg : o.guard = none) (s x : Operand) (t : TypeId) (hop : o.op = Op.call { callee := Callee.builtin Builtin.append, args := #[s, x], argTypes := #[t, t] })
    (base : Nat) (e : TypeId) (i : TypeInfo) (z : Value) (size bytes : Nat) (h1 : P.underlying t = some (.slice e)) (h2 : P.info? e = some i) (h3 : i.zero = some z) (h4 : i.size = size) (h5 : i.bytes = bytes) (h6 : z.cells.size = size) (h7 : 0 < size)
    (v : Value) (n : Nat) (xs : List Value) (hs : a.eval s = v) (hown : w.ownsRow base e size v n xs)
    (ao : Option Addr) (m c : Nat) (news : List Value) (hx : a.eval x = .slice ao m c) (hsrc : SrcAt w ao m size news)
    (b1 : n + m ≤ maxLen) (b2 : (n + m) * bytes ≤ 140737488355328) (hbase : base ≤ w.heap.size)
    (hK : ∀ v' w', w'.ownsRow base e size v' (n + m) (xs ++ news) → w.grownBy w' v.ownBlock → K (a.put o.dst v') w') :
    if Region.wanted o (yielded ops a.tmps) = true then Oper.wp P o a w K Q else E := by
  have hw : Region.wanted o (yielded ops a.tmps) = true := by simp [Region.wanted, hg]
  rw [if_pos hw]
  obtain ⟨hl, h1c, ⟨hao, hm⟩ | ⟨ad, hao, hc⟩⟩ := hsrc
  · subst hao hm
    have hn : news = [] := List.eq_nil_of_length_eq_zero (by rw [hl]; simp)
    subst hn
    have hrun := run_append_nothing' (P := P) (w := w) base t o.type e i size h1 h2 v n xs hown c
    unfold Oper.wp
    simp [execOp, hop, resolve, invoke, builtin, hs, hx, hrun, Result.andThen]
    exact hK v w (by rw [List.append_nil, Nat.add_zero]; exact hown) ⟨rfl, rfl, rfl, Nat.le_refl _, fun _ _ _ => rfl⟩
  · subst hao
    obtain ⟨v', w', hrun, r1, r2, _⟩ := run_append_own (P := P) w base t o.type e i z size bytes h1 h2 h3 h4 h5 h6 h7 v n xs hown ad m c news hl hc h1c b1 b2 hbase
    unfold Oper.wp
    simp [execOp, hop, resolve, invoke, builtin, hs, hx, hrun, Result.andThen]
    exact hK v' w' r1 r2
theorem set4 {xs : List Value} {k : Nat} {p a b c d : Value} {pre : List Value} (hk : k * 4 + 4 ≤ xs.length) (h : xs.take (k * 4) = pre) : ((((xs.set (k * 4) a).set (k * 4 + 1) b).set (k * 4 + 2) c).set (k * 4 + 3) d).take ((k + 1) * 4) = pre ++ [a, b, c, d] := by
  have _ := p
  apply List.ext_getElem?
  intro i
  have hp : pre.length = k * 4 := by rw [← h]; simp; omega
  by_cases h1 : i < k * 4
  · rw [List.getElem?_take_of_lt (by omega), List.getElem?_append_left (by omega), ← h, List.getElem?_take_of_lt h1]
    rw [List.getElem?_set_ne (by omega), List.getElem?_set_ne (by omega), List.getElem?_set_ne (by omega), List.getElem?_set_ne (by omega)]
  · rw [List.getElem?_append_right (by omega), hp]
    by_cases h2 : i < (k + 1) * 4
    · rw [List.getElem?_take_of_lt h2]
      have hc : i = k * 4 ∨ i = k * 4 + 1 ∨ i = k * 4 + 2 ∨ i = k * 4 + 3 := by omega
      rcases hc with rfl | rfl | rfl | rfl
      · rw [List.getElem?_set_ne (by omega), List.getElem?_set_ne (by omega), List.getElem?_set_ne (by omega), List.getElem?_set_self (by omega)]; simp
      · rw [List.getElem?_set_ne (by omega), List.getElem?_set_ne (by omega), List.getElem?_set_self (by simp; omega), show k * 4 + 1 - k * 4 = 1 by omega]; rfl
      · rw [List.getElem?_set_ne (by omega), List.getElem?_set_self (by simp; omega), show k * 4 + 2 - k * 4 = 2 by omega]; rfl
      · rw [List.getElem?_set_self (by simp; omega), show k * 4 + 3 - k * 4 = 3 by omega]; rfl
    · rw [List.getElem?_eq_none (by simp; omega), List.getElem?_eq_none (by simp; omega)]
set_option maxRecDepth 20000 in
set_option maxHeartbeats 1000000 in
theorem defsOf_calls (l : List Int) (ao : Option Addr) (n c : Nat) (w : World) (h : IntA w ao n l) (hn : n ≤ 100000) :
    Calls Try.prog 36 #[.slice ao n c] w fun e w' => RowPost 34 4 n (dfRow (l.map numD)) w e w' := by
  obtain ⟨i0, hi, hz0, hz1, hz2⟩ := info_parts info36
  have HI : Hid (IntA w ao n l) := h
  clear h
  go_enter Try.func36, Try.ntmps36
  go_wp2_with (at_make; refine wpList_make_full _ rfl _ _ 22 rfl w.heap.size 34 i0 (.agg #[.int .i64 0, .int .i64 0, .int .i64 0, .int .i64 0]) 4 Try.underlying22 hi hz0 hz1 .i64 .i64 _ _ n rfl rfl rfl rfl (by rw [hz2]; omega) (by unfold maxLen; omega) (Nat.le_refl _) ?_; intro w2 hown hgrow)
  have HO : Hid (∃ xs, w2.ownsRow w.heap.size 34 4 (.slice (some ⟨w.heap.size, 0, none⟩) n n) n xs ∧ xs.take (0 * 4) = dfRow ((l.take 0).map numD) ∧ Below w.heap.size w w2) := ⟨_, hown, by simp [dfRow], (Below.refl _ _).grown hgrow (Nat.le_refl _) (fun k hk => by cases hk)⟩
  clear hown hgrow
  go_wp2
  go_loopg [4, 5, 11] n (fun q _ _ iv wr => ∃ (k : Nat), k + q = n ∧ iv = .int .i64 k ∧ Hid (∃ xs, wr.ownsRow w.heap.size 34 4 (.slice (some ⟨w.heap.size, 0, none⟩) n n) n xs ∧ xs.take (k * 4) = dfRow ((l.take k).map numD) ∧ Below w.heap.size w wr))
  case atStart => exact ⟨0, by omega, rfl, HO.out⟩
  case round =>
    clear HO
    obtain ⟨k, hkq, rfl, HO⟩ := hrel
    by_cases hlt : k < n
    · obtain ⟨p, hpk⟩ : ∃ p, l[k]? = some p := ⟨l[k]'(by rw [HI.out.length]; exact hlt), List.getElem?_eq_getElem _⟩
      obtain ⟨xs, hown, htk, hlow⟩ := HO.out
      obtain ⟨g1, o1, rfl, hc1⟩ := (HI.out.below hlow).isI k p hpk
      have hxl := hown.1
      have hcl : ∀ j, j < 4 → ∃ u, wr.cell? ⟨w.heap.size, k * 4 + j, none⟩ = some u ∧ wr.frozen? ⟨w.heap.size, k * 4 + j, none⟩ = false := fun j hj => by
        have hlt2 : k * 4 + j < xs.length := by omega
        obtain ⟨u1, u2⟩ := owned_cells hown (k * 4 + j) xs[k * 4 + j] (List.getElem?_eq_getElem hlt2)
        exact ⟨_, u1, u2⟩
      obtain ⟨u0, e0, f0⟩ := hcl 0 (by omega)
      obtain ⟨u1, e1, f1⟩ := hcl 1 (by omega)
      obtain ⟨u2, e2, f2⟩ := hcl 2 (by omega)
      obtain ⟨u3', e3, f3⟩ := hcl 3 (by omega)
      rw [Nat.add_zero] at e0 f0
      have HN : Hid (∃ xs, ((((wr.setCell ⟨w.heap.size, k * 4, none⟩ (.int .i64 1)).setCell ⟨w.heap.size, k * 4 + 1, none⟩ (.int .i64 p)).setCell ⟨w.heap.size, k * 4 + 2, none⟩ (.int .i64 0)).setCell ⟨w.heap.size, k * 4 + 3, none⟩ (.int .i64 0)).ownsRow w.heap.size 34 4 (.slice (some ⟨w.heap.size, 0, none⟩) n n) n xs ∧ xs.take ((k + 1) * 4) = dfRow ((l.take (k + 1)).map numD) ∧ Below w.heap.size w ((((wr.setCell ⟨w.heap.size, k * 4, none⟩ (.int .i64 1)).setCell ⟨w.heap.size, k * 4 + 1, none⟩ (.int .i64 p)).setCell ⟨w.heap.size, k * 4 + 2, none⟩ (.int .i64 0)).setCell ⟨w.heap.size, k * 4 + 3, none⟩ (.int .i64 0))) := by
        refine ⟨_, own_set (own_set (own_set (own_set hown _ _) _ _) _ _) _ _, ?_, (((hlow.setCell (Nat.le_refl _) _).setCell (Nat.le_refl _) _).setCell (Nat.le_refl _) _).setCell (Nat.le_refl _) _⟩
        rw [set4 (p := .int .i64 0) (by omega) htk, show (l.take (k + 1)).map numD = (l.take k).map numD ++ [numD p] by
          obtain ⟨q1, q2⟩ := List.getElem?_eq_some_iff.1 hpk
          rw [List.take_succ_eq_append_getElem q1, q2]; simp]
        simp [dfRow, numD, dfCells]
      clear hown htk hlow hxl hcl hpk HO
      have hk0 : decide ((k : Int) < (n : Int)) = true := by simp; omega
      go_wp2
      go_roundg (gk - 1)
      case measure => omega
      case rel => exact ⟨k + 1, by omega, by go_num, HN.out⟩
    · obtain rfl : k = n := by omega
      have hk0 : decide ((k : Int) < (k : Int)) = false := by simp
      go_wp2
      go_ret
      obtain ⟨xs, hown, htk, hlow⟩ := HO.out
      refine ⟨_, _, rfl, ?_, hlow⟩
      rw [List.take_of_length_le (by rw [hown.1]; exact Nat.le_refl _), List.take_of_length_le (by rw [HI.out.length]; exact Nat.le_refl _)] at htk
      rw [← htk]; exact hown

theorem setAll_frozen (F : Int → Int) : ∀ (l : List (Addr × Int)) (w : World) (a : Addr), (∀ b ∈ l, b.1.spot = none) → (setAll F w l).frozen? a = w.frozen? a
  | [], _, _, _ => rfl
  | b :: r, w, a, h => by
    rw [setAll, setAll_frozen F r _ a (fun c hc => h c (List.mem_cons_of_mem _ hc))]
    obtain ⟨⟨bg, bo, bsp⟩, bp⟩ := b
    have hb := h (⟨bg, bo, bsp⟩, bp) (by simp)
    simp only at hb
    subst hb
    rw [Sort.setCell_eq, Sort.frozen?_mapBlock]
theorem WkAt.heap {w w' : World} {base wb : Nat} {x : Rc} {vs : List Int} {y : Ly} (h : WkAt w base wb x vs y) (e : w'.heap = w.heap) : WkAt w' base wb x vs y :=
  ⟨h.fro, by rw [e]; exact h.box, owned_heap h.defs e, owned_heap h.subst e, owned_heap h.nums e, owned_heap h.states e, ⟨h.rows.1, fun i r s hi hs => ⟨(h.rows.2 i r s hi hs).1, (h.rows.2 i r s hi hs).2.1, (h.rows.2 i r s hi hs).2.2.1, owned_heap (h.rows.2 i r s hi hs).2.2.2 e⟩⟩, h.apart, h.two⟩
theorem fold_end {w : World} {base wb : Nat} {X : Rc} {vs K : List Int} {y : Ly} {da : Option Addr} {n dc kg kc : Nat} (h : WkAt w base wb X vs y) (hn : K.length = n) (hd : w.ownsRow base 34 4 (.slice da n dc) n (dfRow (K.map numD))) (hk : w.ownsRow base 3 1 (.slice (some ⟨kg, 0, none⟩) n kc) n (itRow K)) (h2 : y.sa ≠ some ⟨kg, 0, none⟩) :
    WkAt ((w.setCell ⟨wb, 1, none⟩ (.slice da n dc)).setCell ⟨wb, 11, none⟩ (.slice (some ⟨kg, 0, none⟩) n kc)) base wb { X with defs := K.map numD } K ⟨da, dc, y.sa, y.sc, y.ta, y.tc, some ⟨kg, 0, none⟩, kc, y.sl⟩ := by
  have hg : w.grownBy ((w.setCell ⟨wb, 1, none⟩ (.slice da n dc)).setCell ⟨wb, 11, none⟩ (.slice (some ⟨kg, 0, none⟩) n kc)) (some wb) := grown_trans (grown_set _ _ _ _) (grown_set _ _ _ _)
  refine ⟨h.fro, ?_, ?_, own_kind h.subst h.box (by decide) hg, ?_, own_kind h.states h.box (by decide) hg, ⟨h.rows.1, fun i r s hi hs => ⟨(h.rows.2 i r s hi hs).1, (h.rows.2 i r s hi hs).2.1, (h.rows.2 i r s hi hs).2.2.1, own_kind (h.rows.2 i r s hi hs).2.2.2 h.box (by decide) hg⟩⟩, h.apart, fun a ha e => ?_⟩
  · rw [heap_set _ (heap_set _ h.box)]
    simp [wkCells, hn]
  · simp only [List.length_map]; rw [hn]; exact own_kind hd h.box (by decide) hg
  · simp only; rw [hn]; exact own_kind hk h.box (by decide) hg
  · simp only at ha e
    exact h2 (by rw [ha]; exact e.symm)
theorem nums_len (x : Rc) (vs : List Int) : (numsP x vs).length = (placesL x).length := by simp [numsP]
theorem places_ok {x : Rc} (h : rightR x = true) : ∀ p ∈ placesL x, 0 ≤ p ∧ p < x.defs.length := by
  intro p hp
  rw [placesL] at hp
  obtain ⟨e1, e2⟩ := right_ends h
  rcases List.mem_cons.1 hp with rfl | hp
  · exact e1
  rcases List.mem_cons.1 hp with rfl | hp
  · exact e2
  rcases List.mem_append.1 hp with hp | hp
  · exact (right_subst h).2.2 p hp
  · obtain ⟨s, hs, hps⟩ := List.mem_flatMap.1 hp
    simp only [costsL, List.mem_filter, List.mem_map, decide_eq_true_eq] at hps
    obtain ⟨⟨e, he, rfl⟩, hne⟩ := hps
    have := right_costs h s hs e he
    omega
theorem places_few {x : Rc} (h : rightR x = true) : (placesL x).length ≤ 2000 := by
  have h1 := (right_subst h).1
  have h2 := (right_states h).1
  have h3 : ∀ (l : List St), (∀ s ∈ l, s.2.length ≤ 100) → (costsS l).length ≤ l.length * 100 := by
    intro l
    induction l with
    | nil => intro _; simp [costsS]
    | cons s r ih =>
      intro hl
      have i1 := ih (fun t ht => hl t (List.mem_cons_of_mem _ ht))
      have i2 : (costsL s.2).length ≤ s.2.length := by unfold costsL; exact Nat.le_trans (List.length_filter_le _ _) (by simp)
      have i3 := hl s (by simp)
      rw [costsS] at i1 ⊢
      rw [List.flatMap_cons, List.length_append, List.length_cons]
      omega
  have h4 := h3 x.states (right_edges h)
  rw [placesL]
  simp only [List.length_cons, List.length_append]
  omega
theorem fold_is (x : Rc) (vs : List Int) : foldB x vs = { rnR (fun p => idxB (keptB x vs) (vAt vs p)) x with defs := (keptB x vs).map numD } := rfl
set_option maxRecDepth 20000 in
set_option maxHeartbeats 4000000 in
theorem fold_calls (w : World) (base wb : Nat) (x : Rc) (vs : List Int) (y : Ly) (h : WkAt w base wb x vs y) (hr : rightR x = true) (hv : vs.length = x.defs.length) :
    Calls Try.prog 18 #[.pointer (some ⟨wb, 0, none⟩)] w fun e w' => e = .returned (.tuple #[]) ∧ (∃ y', WkAt w' base wb (foldB x vs) (keptB x vs) y') ∧ Below base w w' := by
  obtain ⟨K, hK⟩ : ∃ K, keptB x vs = K := ⟨_, rfl⟩
  obtain ⟨X, hX⟩ : ∃ X, foldB x vs = X := ⟨_, rfl⟩
  have HKX : Hid (keptB x vs = K ∧ X = { rnR (fun p => idxB K (vAt vs p)) x with defs := K.map numD }) := ⟨hK, by rw [← hX, ← hK]; exact fold_is x vs⟩
  rw [hK, hX]
  clear hK hX
  have HW : Hid (WkAt w base wb x vs y) := h
  have HR : Hid (rightR x = true ∧ vs.length = x.defs.length ∧ 0 < x.subst.length) := ⟨hr, hv, by have := (right_subst hr).2.1; omega⟩
  have hbs : base ≤ w.heap.size := Nat.le_trans h.fro (Nat.le_of_lt (lt_block h.box))
  obtain ⟨i0, hi, hz0, hz1, hz2⟩ := info_parts info3
  have HLn : Hid ((adP wb x y).length = (placesL x).length ∧ (adL wb x y).length = (placesL x).length ∧ 2 ≤ (placesL x).length) := by
    refine ⟨?_, ?_, by simp [placesL]⟩
    · rw [← adP_snd wb x y h.rows.1, List.length_map]
    · rw [← adP_fst, List.length_map, ← adP_snd wb x y h.rows.1, List.length_map]
  obtain ⟨m, hm⟩ : ∃ m, (placesL x).length = m := ⟨_, rfl⟩
  have hm2 : m ≤ 2000 := by rw [← hm]; exact places_few hr
  rw [hm] at HLn
  have HM : Hid ((numsP x vs).length = m) := by show _ = _; rw [nums_len]; exact hm
  -- each place
  have HA : Hid (∀ k, k < m → ∃ (a : Addr × Int) (pn : Nat) (ag ao : Nat), (adP wb x y)[k]? = some a ∧ a.1 = ⟨ag, ao, none⟩ ∧ a.2 = (pn : Int) ∧ pn < vs.length ∧ (adL wb x y)[k]? = some a.1 ∧ (numsP x vs)[k]? = some (vAt vs a.2)) := fun k hk => by
    have h1 : (adP wb x y)[k]? = some ((adP wb x y)[k]'(by rw [HLn.out.1]; exact hk)) := List.getElem?_eq_getElem _
    generalize (adP wb x y)[k]'(by rw [HLn.out.1]; exact hk) = a at h1
    have h2 : (placesL x)[k]? = some a.2 := by rw [← adP_snd wb x y h.rows.1, List.getElem?_map, h1]; rfl
    have h3 := places_ok hr a.2 (List.mem_of_getElem? h2)
    have h4 := (h.places HR.out.2.2 a (List.mem_of_getElem? h1)).1
    refine ⟨a, a.2.toNat, a.1.block, a.1.off, h1, ?_, by omega, by omega, by rw [← adP_fst, List.getElem?_map, h1]; rfl, by rw [numsP, List.getElem?_map, h2]; rfl⟩
    obtain ⟨⟨ag, ao, as'⟩, ap⟩ := a
    simp only at h4
    rw [h4]
  clear h hr hv hm
  obtain ⟨ng, _, hna0, hngb, _, _, hngs⟩ := owned_some HW.out.nums (by
    obtain ⟨_, pn, _, _, _, _, _, q, _⟩ := HA.out 0 (by have := HLn.out.2.2; omega)
    omega)
  have HNA : Hid (y.na = some ⟨ng, 0, none⟩) := by show _ = _; injection hna0
  have HNW : Hid (∀ W, Below w.heap.size w W → W.cell? ⟨wb, 11, none⟩ = some (.slice (some ⟨ng, 0, none⟩) vs.length y.nc) ∧ ∀ pn, pn < vs.length → W.cell? ⟨ng, pn, none⟩ = some (.int .i64 (vAt vs (pn : Int)))) := fun W hW => by
    have hw := HW.out.below hW
    have hnn := hw.nums
    rw [HNA.out] at hnn
    refine ⟨by rw [← HNA.out]; exact hw.cell 11 _ rfl, fun pn hp => (owned_cells hnn pn _ ?_).1⟩
    simp [itRow, vAt, hp]
  clear hna0 hngb hngs
  go_enter Try.func18, Try.ntmps18
  go_wp2_with fail
  refine (places_calls2 w base wb x vs y HW.out HR.out.1).mono ?_
  rintro e w1 ⟨v, rfl, hp⟩
  obtain ⟨pg, pcc, hv0, hpb, _, _, hpl⟩ := owned_some hp.own (by rw [HLn.out.2.1]; have := HLn.out.2.2; omega)
  rw [HLn.out.2.1] at hv0
  subst hv0
  have HP : Hid (∀ W, Below w1.heap.size w1 W → Below w.heap.size w W ∧ ∀ (k : Nat) (a : Addr), (adL wb x y)[k]? = some a → W.cell? ⟨pg, k, none⟩ = some (.pointer (some a))) := fun W hW => by
    refine ⟨hp.low.trans (hW.mono hp.low.size), fun k a ha => ?_⟩
    have ho := owned_below hp.own hW
    rw [HLn.out.2.1] at ho
    exact (owned_cells ho k _ (by simp [ptRow, ha])).1
  have HPW : Hid (w1.ownsRow w.heap.size 64 1 (.slice (some ⟨pg, 0, none⟩) m pcc) m (ptRow (adL wb x y)) ∧ Below w.heap.size w w1) := by
    have ho := hp.own
    rw [HLn.out.2.1] at ho
    exact ⟨ho, hp.low⟩
  clear hp hpb hpl
  go_wp2
  go_loopg [3, 5, 12] m (fun q kv _ iv wr => ∃ (k : Nat), k + q = m ∧ iv = .int .i64 k ∧ Hid (wr.ownsRow w1.heap.size 3 1 kv k (itRow ((numsP x vs).take k)) ∧ Below w1.heap.size w1 wr))
  case atStart => exact ⟨0, by omega, rfl, none_row _ _ _ _, Below.refl _ _⟩
  case round =>
    obtain ⟨k, hkq, rfl, HK⟩ := hrel
    obtain ⟨kv, rfl⟩ : ∃ kv, kv = u3 := ⟨_, rfl⟩
    by_cases hlt : k < m
    · obtain ⟨a, pn, ag, ao, ha1, ha2, ha3, ha4, ha5, ha6⟩ := HA.out k hlt
      have HS1 : Hid (∀ W, Below w1.heap.size w1 W → W.cell? ⟨wb, 11, none⟩ = some (.slice (some ⟨ng, 0, none⟩) vs.length y.nc) ∧ W.cell? ⟨ag, ao, none⟩ = some (.int .i64 (pn : Int)) ∧ W.cell? ⟨ng, pn, none⟩ = some (.int .i64 (vAt vs (pn : Int)))) := fun W hB1 => by
        obtain ⟨hB, _⟩ := HP.out W hB1
        obtain ⟨q1, q2⟩ := HNW.out W hB
        refine ⟨q1, ?_, q2 pn ha4⟩
        have := ((HW.out.below hB).placeCell HR.out.2.2 a (List.mem_of_getElem? ha1)).1
        rw [ha2, ha3] at this
        exact this
      have hp1 : wr.cell? ⟨pg, k, none⟩ = some (.pointer (some ⟨ag, ao, none⟩)) := by rw [← ha2]; exact (HP.out wr HK.out.2).2 k _ ha5
      have HSN : Hid ((numsP x vs).take (k + 1) = (numsP x vs).take k ++ [vAt vs (pn : Int)]) := by
        show _ = _
        rw [← ha3]
        obtain ⟨q1, q2⟩ := List.getElem?_eq_some_iff.1 ha6
        rw [List.take_succ_eq_append_getElem q1, q2]
      obtain ⟨vl, hvl⟩ : ∃ vl, vs.length = vl := ⟨_, rfl⟩
      obtain ⟨vv, hvv⟩ : ∃ vv, vAt vs (pn : Int) = vv := ⟨_, rfl⟩
      have hvl2 : vl ≤ 5004 := by rw [← hvl, HR.out.2.1]; exact (right_defs HR.out.1).1
      rw [hvl, hvv] at HS1
      rw [hvl] at ha4
      rw [hvv] at HSN
      have hpn : (pn : Int) < (vl : Int) := by omega
      clear ha1 ha2 ha3 ha5 ha6 hvl hvv
      have hk0 : decide ((k : Int) < (m : Int)) = true := by simp; omega
      go_wp2_with fail
      have hs0 := HS1.out wr.drew HK.out.2.drew
      refine wp_region_Y (fun j => [].contains j) (fun W : World => W.cell? ⟨wb, 11, none⟩ = some (.slice (some ⟨ng, 0, none⟩) vl y.nc) ∧ W.cell? ⟨ag, ao, none⟩ = some (.int .i64 (pn : Int)) ∧ W.cell? ⟨ng, pn, none⟩ = some (.int .i64 vv)) (by kernel_rfl) ?_
      refine wpAnyY_takeD (i := 0) 16 (v := kv) rfl rfl (by kernel_rfl) (by kernel_rfl) (late_of (by kernel_rfl)) (by kernel_rfl) (by kernel_rfl) (fun _ _ _ h => h) hs0 (Or.inl ⟨by rfl, by (intro W hW; obtain ⟨s0, s1, s2⟩ := hW; go_simp)⟩) ?_
      simp only [Act.put, List.setIfInBounds_toArray, List.set_cons_succ, List.set_cons_zero]
      refine wpAnyY_takeD (i := 1) 17 (v := .pointer (some ⟨wb, 0, none⟩)) rfl rfl (by kernel_rfl) (by kernel_rfl) (late_of (by kernel_rfl)) (by kernel_rfl) (by kernel_rfl) (fun _ _ _ h => h) hs0 (Or.inl ⟨by rfl, by (intro W hW; obtain ⟨s0, s1, s2⟩ := hW; go_simp)⟩) ?_
      simp only [Act.put, List.setIfInBounds_toArray, List.set_cons_succ, List.set_cons_zero]
      refine wpAnyY_takeD (i := 2) 18 (v := .pointer (some ⟨wb, 0, none⟩)) rfl rfl (by kernel_rfl) (by kernel_rfl) (late_of (by kernel_rfl)) (by kernel_rfl) (by kernel_rfl) (fun _ _ _ h => h) hs0 (Or.inl ⟨by rfl, by (intro W hW; obtain ⟨s0, s1, s2⟩ := hW; go_simp)⟩) ?_
      simp only [Act.put, List.setIfInBounds_toArray, List.set_cons_succ, List.set_cons_zero]
      refine wpAnyY_takeD (i := 3) 19 (v := .pointer (some ⟨wb, 11, none⟩)) rfl rfl (by kernel_rfl) (by kernel_rfl) (late_of (by kernel_rfl)) (by kernel_rfl) (by kernel_rfl) (fun _ _ _ h => h) hs0 (Or.inl ⟨by rfl, by (intro W hW; obtain ⟨s0, s1, s2⟩ := hW; go_simp)⟩) ?_
      simp only [Act.put, List.setIfInBounds_toArray, List.set_cons_succ, List.set_cons_zero]
      refine wpAnyY_takeD (i := 4) 20 (v := .slice (some ⟨ng, 0, none⟩) vl y.nc) rfl rfl (by kernel_rfl) (by kernel_rfl) (late_of (by kernel_rfl)) (by kernel_rfl) (by kernel_rfl) (fun _ _ _ h => h) hs0 (Or.inl ⟨by rfl, by (intro W hW; obtain ⟨s0, s1, s2⟩ := hW; go_simp)⟩) ?_
      simp only [Act.put, List.setIfInBounds_toArray, List.set_cons_succ, List.set_cons_zero]
      refine wpAnyY_takeD (i := 5) 21 (v := .pointer (some ⟨ag, ao, none⟩)) rfl rfl (by kernel_rfl) (by kernel_rfl) (late_of (by kernel_rfl)) (by kernel_rfl) (by kernel_rfl) (fun _ _ _ h => h) hs0 (Or.inl ⟨by rfl, by (intro W hW; obtain ⟨s0, s1, s2⟩ := hW; go_simp)⟩) ?_
      simp only [Act.put, List.setIfInBounds_toArray, List.set_cons_succ, List.set_cons_zero]
      refine wpAnyY_takeD (i := 6) 22 (v := .pointer (some ⟨ag, ao, none⟩)) rfl rfl (by kernel_rfl) (by kernel_rfl) (late_of (by kernel_rfl)) (by kernel_rfl) (by kernel_rfl) (fun _ _ _ h => h) hs0 (Or.inl ⟨by rfl, by (intro W hW; obtain ⟨s0, s1, s2⟩ := hW; go_simp)⟩) ?_
      simp only [Act.put, List.setIfInBounds_toArray, List.set_cons_succ, List.set_cons_zero]
      refine wpAnyY_takeD (i := 7) 23 (v := .int .i64 (pn : Int)) rfl rfl (by kernel_rfl) (by kernel_rfl) (late_of (by kernel_rfl)) (by kernel_rfl) (by kernel_rfl) (fun _ _ _ h => h) hs0 (Or.inl ⟨by rfl, by (intro W hW; obtain ⟨s0, s1, s2⟩ := hW; go_simp)⟩) ?_
      simp only [Act.put, List.setIfInBounds_toArray, List.set_cons_succ, List.set_cons_zero]
      refine wpAnyY_takeD (i := 8) 24 (v := .pointer (some ⟨ng, pn, none⟩)) rfl rfl (by kernel_rfl) (by kernel_rfl) (late_of (by kernel_rfl)) (by kernel_rfl) (by kernel_rfl) (fun _ _ _ h => h) hs0 (Or.inl ⟨by rfl, by (intro W hW; obtain ⟨s0, s1, s2⟩ := hW; go_simp)⟩) ?_
      simp only [Act.put, List.setIfInBounds_toArray, List.set_cons_succ, List.set_cons_zero]
      refine wpAnyY_takeD (i := 9) 25 (v := .int .i64 vv) rfl rfl (by kernel_rfl) (by kernel_rfl) (late_of (by kernel_rfl)) (by kernel_rfl) (by kernel_rfl) (fun _ _ _ h => h) hs0 (Or.inl ⟨by rfl, by (intro W hW; obtain ⟨s0, s1, s2⟩ := hW; go_simp)⟩) ?_
      simp only [Act.put, List.setIfInBounds_toArray, List.set_cons_succ, List.set_cons_zero]
      refine wpAnyY_one (i := 10) rfl (by kernel_rfl) (fun Kc hKc => ?_)
      go_simp
      refine hKc.out _ _ (fun _ _ => HS1.out _ ((HK.out.2.alloc HK.out.2.size _).drew)) ?_
      clear hKc Kc
      have HK2 : Hid ((wr.alloc (.cells #[.int .i64 vv] 3)).drew.ownsRow w1.heap.size 3 1 kv k (itRow ((numsP x vs).take k)) ∧ Below wr.heap.size wr (wr.alloc (.cells #[.int .i64 vv] 3)).drew) := ⟨owned_below HK.out.1 (((Below.refl _ _).alloc (Nat.le_refl _) _).drew), ((Below.refl _ _).alloc (Nat.le_refl _) _).drew⟩
      refine wpAnyY_one (i := 11) rfl (by kernel_rfl) (fun Kc hKc => ?_)
      refine step_append_opt rfl (.tmp 16) (.tmp 26) 23 rfl w1.heap.size 3 i0 _ 1 8 Try.underlying23 hi hz0 hz1 hz2 rfl (by decide) kv k _ (by simp [Act.eval]) HK2.out.1 (some ⟨wr.heap.size, 0, none⟩) 1 1 [.int .i64 vv] (by simp [Act.eval]) ⟨rfl, it_one vv, .inr ⟨_, rfl, it_new wr vv⟩⟩ (by unfold maxLen; omega) (by omega) (Nat.le_trans HK.out.2.size HK2.out.2.size) ?_
      intro v' w5 ho hg
      have HN : Hid (w5.ownsRow w1.heap.size 3 1 v' (k + 1) (itRow ((numsP x vs).take (k + 1))) ∧ Below w1.heap.size w1 w5) := by
        have hlow : Below w1.heap.size w1 (wr.alloc (.cells #[.int .i64 vv] 3)).drew := HK.out.2.trans (HK2.out.2.mono HK.out.2.size)
        have hkb : ∀ j, kv.ownBlock = some j → w1.heap.size ≤ j := fun j hj => by
          rcases HK.out.1.2 with ⟨hv, _⟩ | ⟨g', cap', cur, hv, hb', _⟩
          · rw [hv] at hj; cases hj
          · rw [hv] at hj; simp [Value.ownBlock] at hj; omega
        refine ⟨?_, hlow.grown hg hlow.size hkb⟩
        rw [HSN.out]; simpa [itRow] using ho
      clear ho hg HK2
      refine hKc.out _ _ (fun _ _ => HS1.out _ HN.out.2) ?_
      clear hKc Kc
      simp only [Act.put]
      refine wpAnyY_one (i := 12) rfl (by kernel_rfl) (fun Kc hKc => ?_)
      go_simp
      refine hKc.out _ _ (fun _ h => h) ?_
      clear hKc Kc
      refine wpAnyY_done (by kernel_rfl) ?_ _
      go_wp2
      go_roundg (gk - 1)
      case measure => omega
      case rel => exact ⟨k + 1, by omega, by go_num, HN.out.1, HN.out.2⟩
    · have hkm : k = m := by omega
      have hk0 : decide ((k : Int) < (m : Int)) = false := by simp; omega
      rw [hkm] at HK hk0 ⊢
      clear hkm
      have HK1 : Hid (wr.ownsRow w1.heap.size 3 1 kv m (itRow (numsP x vs)) ∧ Below w1.heap.size w1 wr) := by
        have := HK.out
        rw [List.take_of_length_le (by rw [HM.out]; exact Nat.le_refl _)] at this
        exact this
      clear HK
      obtain ⟨kg, kc, rfl, hkb, _, _, _⟩ := owned_some HK1.out.1 (by have := HLn.out.2.2; omega)
      have HKB : Hid (w1.heap.size ≤ kg) := hkb
      clear hkb
      go_wp2_with fail
      refine (sort_calls (numsP x vs) w1.heap.size kg m kc wr HK1.out.1 (by omega)).mono ?_
      rintro e w2 ⟨rfl, ho2, hg2⟩
      have HK2 : Hid (w2.ownsRow w1.heap.size 3 1 (.slice (some ⟨kg, 0, none⟩) m kc) m (itRow ((numsP x vs).mergeSort fun x y => decide (x ≤ y))) ∧ Below w1.heap.size w1 w2) := ⟨ho2, HK1.out.2.grown hg2 HK1.out.2.size (fun j hj => by cases hj; exact HKB.out)⟩
      clear ho2 hg2 HK1
      go_wp2_with fail
      refine (compact_calls ((numsP x vs).mergeSort fun x y => decide (x ≤ y)) w1.heap.size kg m kc w2 HK2.out.1 (by omega)).mono ?_
      rw [kept_is x vs, HKX.out.1]
      obtain ⟨kn, hkn⟩ : ∃ kn, K.length = kn := ⟨_, rfl⟩
      have HKN : Hid (K.length = kn) := hkn
      rw [hkn]
      clear hkn
      rintro e w3 ⟨rfl, ho3, hg3⟩
      have HK3 : Hid (w3.ownsRow w1.heap.size 3 1 (.slice (some ⟨kg, 0, none⟩) kn kc) kn (itRow K) ∧ Below w1.heap.size w1 w3) := ⟨ho3, HK2.out.2.grown hg3 HK2.out.2.size (fun j hj => by cases hj; exact HKB.out)⟩
      have HKR : Hid (Rising K ∧ kn ≤ 5000) := by
        rw [← HKN.out, ← HKX.out.1]
        refine ⟨(kept_rising x vs).1, ?_⟩
        rw [← kept_is x vs]
        have := compact_le ((numsP x vs).mergeSort fun x y => decide (x ≤ y))
        rw [List.length_mergeSort, HM.out] at this
        omega
      clear ho3 hg3 HK2
      have hkn5 : kn ≤ 5000 := HKR.out.2
      obtain ⟨F, hF⟩ : ∃ F : Int → Int, F = fun p => idxB K (vAt vs p) := ⟨_, rfl⟩
      have HF : Hid ((∀ p, F p = idxB K (vAt vs p)) ∧ X = { rnR F x with defs := K.map numD }) := ⟨fun p => by rw [hF], by rw [hF]; exact HKX.out.2⟩
      clear hF
      have HB3 : Hid (Below w.heap.size w w3) := (HP.out w3 HK3.out.2).1
      have HW3 : Hid (WkAt w3 base wb x vs y) := HW.out.below HB3.out
      -- what stays while places are renewed
      have HFX : Hid (∀ (k : Nat) (W : World), k < m → W.heap = (setAll F w3 ((adP wb x y).take k)).heap → ∃ (a : Addr × Int) (pn ag ao : Nat), (adP wb x y)[k]? = some a ∧ a = (⟨ag, ao, none⟩, (pn : Int)) ∧ pn < vs.length ∧ base ≤ ag ∧ W.cell? ⟨pg, k, none⟩ = some (.pointer (some ⟨ag, ao, none⟩)) ∧ W.frozen? ⟨ag, ao, none⟩ = false ∧ (W.cell? ⟨wb, 11, none⟩ = some (.slice (some ⟨ng, 0, none⟩) vs.length y.nc) ∧ W.cell? ⟨ag, ao, none⟩ = some (.int .i64 (pn : Int)) ∧ W.cell? ⟨ng, pn, none⟩ = some (.int .i64 (vAt vs (pn : Int))))) := by
        intro k W hk hW
        obtain ⟨a, pn, ag, ao, ha1, ha2, ha3, ha4, ha5, ha6⟩ := HA.out k hk
        have hmem := List.mem_of_getElem? ha1
        have hpl := HW3.out.places HR.out.2.2
        have hcl : ∀ p : Addr, p.spot = none → (∀ b ∈ (adP wb x y).take k, b.1 ≠ p) → W.cell? p = w3.cell? p := fun p hp hne => by
          have h1 : W.cell? p = (setAll F w3 ((adP wb x y).take k)).cell? p := by unfold World.cell?; rw [hW]
          rw [h1]
          exact setAll_cell F _ _ _ hp fun b hb => ⟨hne b hb, (hpl b (List.mem_of_mem_take hb)).1⟩
        have hbl : ∀ (g i : Nat), g ≠ wb → g ≠ blkOf y.sa → (∀ cs : Array Value, w3.heap[g]? ≠ some (Obj.cells cs 42 (0, 0))) → W.cell? ⟨g, i, none⟩ = w3.cell? ⟨g, i, none⟩ := fun g i h1 h2 h3 => hcl _ rfl fun b hb e => by
          obtain ⟨_, _, q⟩ := hpl b (List.mem_of_mem_take hb)
          rw [e] at q
          rcases q with q | q | ⟨cs, q⟩
          · exact h1 q
          · exact h2 q
          · exact h3 cs q
        obtain ⟨css, qs1, qs3⟩ := HW3.out.subBlk HR.out.2.2
        have hpw : ∃ cp, w3.heap[pg]? = some (.cells cp 64 (0, 0)) := by
          rcases (owned_below HPW.out.1 HK3.out.2).2 with ⟨hv, _⟩ | ⟨g', cap', cur, hv, _, hg', _⟩
          · cases hv
          · cases hv; exact ⟨_, hg'⟩
        obtain ⟨cp, hcp⟩ := hpw
        have hnw : ∃ cn, w3.heap[ng]? = some (.cells cn 3 (0, 0)) := by
          have hnn := HW3.out.nums
          rw [HNA.out] at hnn
          rcases hnn.2 with ⟨hv, _⟩ | ⟨g', cap', cur, hv, _, hg', _⟩
          · cases hv
          · cases hv; exact ⟨_, hg'⟩
        obtain ⟨cn, hcn⟩ := hnw
        obtain ⟨q1, q2⟩ := HNW.out w3 HB3.out
        obtain ⟨c1, c2⟩ := HW3.out.placeCell HR.out.2.2 a hmem
        refine ⟨a, pn, ag, ao, ha1, by rw [← ha2, ← ha3], ha4, ?_, ?_, ?_, ?_, ?_, ?_⟩
        · have := (hpl a hmem).2.1
          rw [ha2] at this
          exact this
        · rw [hbl pg k (fun e => by rw [e, HW3.out.box] at hcp; cases hcp) (fun e => by rw [e, qs3] at hcp; cases hcp) (fun cs e => by rw [hcp] at e; cases e), ← ha2]
          exact (HP.out w3 HK3.out.2).2 k _ ha5
        · have hfz : W.frozen? a.1 = false := by
            have h1 : W.frozen? a.1 = (setAll F w3 ((adP wb x y).take k)).frozen? a.1 := by unfold World.frozen?; rw [hW]
            rw [h1, setAll_frozen F _ _ _ fun b hb => (hpl b (List.mem_of_mem_take hb)).1]
            exact c2
          rw [ha2] at hfz
          exact hfz
        · rw [hcl ⟨wb, 11, none⟩ rfl (fun b hb e => by
            have hb' := List.mem_of_mem_take hb
            rw [adP] at hb'
            rcases List.mem_cons.1 hb' with rfl | hb'
            · simp at e
            rcases List.mem_cons.1 hb' with rfl | hb'
            · simp at e
            rcases List.mem_append.1 hb' with hb' | hb'
            · have := (spF_block _ _ _ b hb').1
              rw [e] at this
              rw [← this, HW3.out.box] at qs3
              cases qs3
            · obtain ⟨cs2, hc⟩ := HW3.out.epBlk b hb'
              rw [e, HW3.out.box] at hc
              cases hc)]
          exact q1
        · have := hcl a.1 (hpl a hmem).1 (fun b hb e => by
            have hnd := HW3.out.nodup HR.out.2.2
            obtain ⟨j, hj, hbj⟩ := List.getElem_of_mem hb
            have hj2 : j < k := by have := hj; rw [List.length_take] at this; omega
            have h1 := List.pairwise_iff_getElem.1 hnd j k (by rw [HLn.out.1]; omega) (by rw [HLn.out.1]; exact hk) hj2
            rw [List.getElem_take] at hbj
            obtain ⟨h2, h3⟩ := List.getElem?_eq_some_iff.1 ha1
            rw [hbj, h3] at h1
            exact h1 e)
          rw [c1, ha2, ha3] at this
          exact this
        · rw [hbl ng pn (fun e => by rw [e, HW3.out.box] at hcn; cases hcn) (fun e => HW3.out.two _ qs1 (by rw [HNA.out, e])) (fun cs e => by rw [hcn] at e; cases e)]
          exact q2 pn ha4
      clear HA HNW
      go_wp2
      go_loopg [7, 35] m (fun q _ iv wr => ∃ (k : Nat), k + q = m ∧ iv = .int .i64 k ∧ Hid (wr.heap = (setAll F w3 ((adP wb x y).take k)).heap ∧ Below base w wr))
      case atStart => exact ⟨0, by omega, rfl, by simp [setAll], HB3.out.mono hbs⟩
      case round =>
        obtain ⟨k, hkq, rfl, HQ⟩ := hrel
        by_cases hlt : k < m
        · obtain ⟨a, pn, ag, ao, ha1, ha2, ha4, hab, hp1, hfz, hcs⟩ := HFX.out k wr hlt HQ.out.1
          obtain ⟨vl, hvl⟩ : ∃ vl, vs.length = vl := ⟨_, rfl⟩
          obtain ⟨vv, hvv⟩ : ∃ vv, vAt vs (pn : Int) = vv := ⟨_, rfl⟩
          have HFV : Hid (F (pn : Int) = idxB K vv) := by show _ = _; rw [HF.out.1, hvv]
          obtain ⟨ix, hix⟩ : ∃ ix, idxB K vv = ix := ⟨_, rfl⟩
          have hvl2 : vl ≤ 5004 := by rw [← hvl, HR.out.2.1]; exact (right_defs HR.out.1).1
          rw [hvl, hvv] at hcs
          rw [hvl] at ha4
          have HS1 : Hid (∀ W : World, W.heap = wr.heap → (W.cell? ⟨wb, 11, none⟩ = some (.slice (some ⟨ng, 0, none⟩) vl y.nc) ∧ W.cell? ⟨ag, ao, none⟩ = some (.int .i64 (pn : Int)) ∧ W.cell? ⟨ng, pn, none⟩ = some (.int .i64 vv)) ∧ W.frozen? ⟨ag, ao, none⟩ = false) := fun W hW => by
            unfold World.cell? World.frozen? at *
            rw [hW]
            exact ⟨hcs, hfz⟩
          have HKW : Hid (wr.ownsRow w1.heap.size 3 1 (.slice (some ⟨kg, 0, none⟩) kn kc) kn (itRow K)) := by
            refine owned_of_block HK3.out.1 fun g cur hg hc => ?_
            rw [HQ.out.1]
            refine setAll_other F _ _ _ fun b hb e => ?_
            obtain ⟨_, _, q⟩ := HW3.out.places HR.out.2.2 b (List.mem_of_mem_take hb)
            simp [Value.ownBlock] at hg
            subst hg
            rw [e] at q
            rcases q with q | q | ⟨cs, q⟩
            · rw [q, HW3.out.box] at hc; cases hc
            · obtain ⟨_, _, q3⟩ := HW.out.subBlk HR.out.2.2
              have h1 := lt_block q3
              have h2 := HKB.out
              have h3 := HPW.out.2.size
              omega
            · rw [hc] at q; cases q
          have HLT : Hid ((adP wb x y).take (k + 1) = (adP wb x y).take k ++ [((⟨ag, ao, none⟩ : Addr), (pn : Int))]) := by
            show _ = _
            obtain ⟨q1, q2⟩ := List.getElem?_eq_some_iff.1 ha1
            rw [List.take_succ_eq_append_getElem q1, q2, ha2]
          have hpn : (pn : Int) < (vl : Int) := by omega
          clear ha1 ha2 hvl hvv hcs hfz
          have hk1 : decide ((k : Int) < (m : Int)) = true := by simp; omega
          go_wp2_with fail
          have hs0 := (HS1.out wr.drew rfl).1
          refine wp_region_Y (fun j => [16].contains j) (fun W : World => W.cell? ⟨wb, 11, none⟩ = some (.slice (some ⟨ng, 0, none⟩) vl y.nc) ∧ W.cell? ⟨ag, ao, none⟩ = some (.int .i64 (pn : Int)) ∧ W.cell? ⟨ng, pn, none⟩ = some (.int .i64 vv)) (by kernel_rfl) ?_
          refine wpAnyY_takeD (i := 0) 40 (v := .pointer (some ⟨ag, ao, none⟩)) rfl rfl (by kernel_rfl) (by kernel_rfl) (late_of (by kernel_rfl)) (by kernel_rfl) (by kernel_rfl) (fun _ _ _ h => h) hs0 (Or.inl ⟨by rfl, by (intro W hW; obtain ⟨s0, s1, s2⟩ := hW; go_simp)⟩) ?_
          simp only [Act.put, List.setIfInBounds_toArray, List.set_cons_succ, List.set_cons_zero]
          refine wpAnyY_takeD (i := 1) 41 (v := .slice (some ⟨kg, 0, none⟩) kn kc) rfl rfl (by kernel_rfl) (by kernel_rfl) (late_of (by kernel_rfl)) (by kernel_rfl) (by kernel_rfl) (fun _ _ _ h => h) hs0 (Or.inl ⟨by rfl, by (intro W hW; obtain ⟨s0, s1, s2⟩ := hW; go_simp)⟩) ?_
          simp only [Act.put, List.setIfInBounds_toArray, List.set_cons_succ, List.set_cons_zero]
          refine wpAnyY_takeD (i := 2) 42 (v := .pointer (some ⟨wb, 0, none⟩)) rfl rfl (by kernel_rfl) (by kernel_rfl) (late_of (by kernel_rfl)) (by kernel_rfl) (by kernel_rfl) (fun _ _ _ h => h) hs0 (Or.inl ⟨by rfl, by (intro W hW; obtain ⟨s0, s1, s2⟩ := hW; go_simp)⟩) ?_
          simp only [Act.put, List.setIfInBounds_toArray, List.set_cons_succ, List.set_cons_zero]
          refine wpAnyY_takeD (i := 3) 43 (v := .pointer (some ⟨wb, 0, none⟩)) rfl rfl (by kernel_rfl) (by kernel_rfl) (late_of (by kernel_rfl)) (by kernel_rfl) (by kernel_rfl) (fun _ _ _ h => h) hs0 (Or.inl ⟨by rfl, by (intro W hW; obtain ⟨s0, s1, s2⟩ := hW; go_simp)⟩) ?_
          simp only [Act.put, List.setIfInBounds_toArray, List.set_cons_succ, List.set_cons_zero]
          refine wpAnyY_takeD (i := 4) 44 (v := .pointer (some ⟨wb, 11, none⟩)) rfl rfl (by kernel_rfl) (by kernel_rfl) (late_of (by kernel_rfl)) (by kernel_rfl) (by kernel_rfl) (fun _ _ _ h => h) hs0 (Or.inl ⟨by rfl, by (intro W hW; obtain ⟨s0, s1, s2⟩ := hW; go_simp)⟩) ?_
          simp only [Act.put, List.setIfInBounds_toArray, List.set_cons_succ, List.set_cons_zero]
          refine wpAnyY_takeD (i := 5) 45 (v := .slice (some ⟨ng, 0, none⟩) vl y.nc) rfl rfl (by kernel_rfl) (by kernel_rfl) (late_of (by kernel_rfl)) (by kernel_rfl) (by kernel_rfl) (fun _ _ _ h => h) hs0 (Or.inl ⟨by rfl, by (intro W hW; obtain ⟨s0, s1, s2⟩ := hW; go_simp)⟩) ?_
          simp only [Act.put, List.setIfInBounds_toArray, List.set_cons_succ, List.set_cons_zero]
          refine wpAnyY_takeD (i := 6) 46 (v := .pointer (some ⟨ag, ao, none⟩)) rfl rfl (by kernel_rfl) (by kernel_rfl) (late_of (by kernel_rfl)) (by kernel_rfl) (by kernel_rfl) (fun _ _ _ h => h) hs0 (Or.inl ⟨by rfl, by (intro W hW; obtain ⟨s0, s1, s2⟩ := hW; go_simp)⟩) ?_
          simp only [Act.put, List.setIfInBounds_toArray, List.set_cons_succ, List.set_cons_zero]
          refine wpAnyY_takeD (i := 7) 47 (v := .pointer (some ⟨ag, ao, none⟩)) rfl rfl (by kernel_rfl) (by kernel_rfl) (late_of (by kernel_rfl)) (by kernel_rfl) (by kernel_rfl) (fun _ _ _ h => h) hs0 (Or.inl ⟨by rfl, by (intro W hW; obtain ⟨s0, s1, s2⟩ := hW; go_simp)⟩) ?_
          simp only [Act.put, List.setIfInBounds_toArray, List.set_cons_succ, List.set_cons_zero]
          refine wpAnyY_takeD (i := 8) 48 (v := .int .i64 (pn : Int)) rfl rfl (by kernel_rfl) (by kernel_rfl) (late_of (by kernel_rfl)) (by kernel_rfl) (by kernel_rfl) (fun _ _ _ h => h) hs0 (Or.inl ⟨by rfl, by (intro W hW; obtain ⟨s0, s1, s2⟩ := hW; go_simp)⟩) ?_
          simp only [Act.put, List.setIfInBounds_toArray, List.set_cons_succ, List.set_cons_zero]
          refine wpAnyY_takeD (i := 9) 49 (v := .pointer (some ⟨ng, pn, none⟩)) rfl rfl (by kernel_rfl) (by kernel_rfl) (late_of (by kernel_rfl)) (by kernel_rfl) (by kernel_rfl) (fun _ _ _ h => h) hs0 (Or.inl ⟨by rfl, by (intro W hW; obtain ⟨s0, s1, s2⟩ := hW; go_simp)⟩) ?_
          simp only [Act.put, List.setIfInBounds_toArray, List.set_cons_succ, List.set_cons_zero]
          refine wpAnyY_takeD (i := 10) 50 (v := .int .i64 vv) rfl rfl (by kernel_rfl) (by kernel_rfl) (late_of (by kernel_rfl)) (by kernel_rfl) (by kernel_rfl) (fun _ _ _ h => h) hs0 (Or.inl ⟨by rfl, by (intro W hW; obtain ⟨s0, s1, s2⟩ := hW; go_simp)⟩) ?_
          simp only [Act.put, List.setIfInBounds_toArray, List.set_cons_succ, List.set_cons_zero]
          refine wpAnyY_one (i := 11) rfl (by kernel_rfl) (fun Kc hKc => ?_)
          refine step_fn rfl 35 _ _ rfl Try.f35 Try.func35 (by kernel_rfl) (by kernel_rfl) #[.slice (some ⟨kg, 0, none⟩) kn kc, .int .i64 vv] (by simp [Act.eval]) (search_calls K w1.heap.size kg kn kc vv _ (owned_heap HKW.out rfl) (by omega) HKR.out.1) ?_
          rintro e w4 ⟨⟨bo, rfl⟩, qn, hqn⟩
          rw [hix]
          have HQ4 : Hid (w4.heap = wr.heap ∧ Below base w w4) := by
            rw [hqn]
            exact ⟨rfl, ⟨HQ.out.2.os, HQ.out.2.tape, HQ.out.2.output, HQ.out.2.size, HQ.out.2.block⟩⟩
          clear hqn
          refine ⟨_, rfl, hKc.out _ _ (fun _ _ => (HS1.out _ HQ4.out.1).1) ?_⟩
          clear hKc Kc
          simp only [Act.put]
          refine wpAnyY_pure (i := 12) 39 (v := .tuple #[.int .i64 ix, .bool bo]) rfl rfl (by kernel_rfl) (by kernel_rfl) (by kernel_rfl) (fun _ _ _ h => h) (Or.inl ⟨by rfl, by (intro W _; go_simp)⟩) ?_
          simp only [Act.put]
          refine wpAnyY_pure (i := 13) 52 (v := .int .i64 ix) rfl rfl (by kernel_rfl) (by kernel_rfl) (by kernel_rfl) (fun _ _ _ h => h) (Or.inl ⟨by rfl, by (intro W _; go_simp)⟩) ?_
          simp only [Act.put]
          refine wpAnyY_pure (i := 14) 53 (v := .bool bo) rfl rfl (by kernel_rfl) (by kernel_rfl) (by kernel_rfl) (fun _ _ _ h => h) (Or.inl ⟨by rfl, by (intro W _; go_simp)⟩) ?_
          simp only [Act.put]
          refine wpAnyY_pure (i := 15) 54 (v := .pointer (some ⟨ag, ao, none⟩)) rfl rfl (by kernel_rfl) (by kernel_rfl) (by kernel_rfl) (fun _ _ _ h => h) (Or.inl ⟨by rfl, by (intro W _; go_simp)⟩) ?_
          simp only [Act.put]
          obtain ⟨⟨_, ca, _⟩, cf⟩ := HS1.out w4 HQ4.out.1
          refine wpAnyY_one (i := 16) rfl (by kernel_rfl) (fun Kc hKc => ?_)
          go_simp
          refine hKc.out _ _ (fun h => absurd h (by decide)) ?_
          clear hKc Kc
          refine wpAnyY_done (by kernel_rfl) ?_ _
          have HN : Hid ((w4.setCell ⟨ag, ao, none⟩ (.int .i64 ix)).heap = (setAll F w3 ((adP wb x y).take (k + 1))).heap ∧ Below base w (w4.setCell ⟨ag, ao, none⟩ (.int .i64 ix))) := by
            refine ⟨?_, HQ4.out.2.setCell hab _⟩
            rw [HLT.out, setAll_append]
            simp only [setAll]
            rw [HFV.out, hix]
            unfold World.setCell
            rw [HQ4.out.1, HQ.out.1]
          clear ca cf hs0 HQ HQ4 HLT HKW HS1 HFV
          go_wp2
          go_roundg (gk - 1)
          case measure => omega
          case rel => exact ⟨k + 1, by omega, by go_num, HN.out⟩
        · have hkm : k = m := by omega
          have hk1 : decide ((k : Int) < (m : Int)) = false := by simp; omega
          have HWR : Hid (WkAt wr base wb (rnR F x) vs y ∧ Below base w wr) := by
            have h1 := HQ.out.1
            rw [List.take_of_length_le (by rw [HLn.out.1]; omega)] at h1
            exact ⟨(HW3.out.renewed F HR.out.2.2).heap h1, HQ.out.2⟩
          have HKW : Hid (wr.ownsRow w1.heap.size 3 1 (.slice (some ⟨kg, 0, none⟩) kn kc) kn (itRow K) ∧ blkOf y.sa ≠ kg) := by
            have hne : blkOf y.sa ≠ kg := by
              obtain ⟨_, _, q3⟩ := HW.out.subBlk HR.out.2.2
              have h1 := lt_block q3
              have h2 := HKB.out
              have h3 := HPW.out.2.size
              omega
            refine ⟨owned_of_block HK3.out.1 fun g cur hg hc => ?_, hne⟩
            rw [HQ.out.1]
            refine setAll_other F _ _ _ fun b hb e => ?_
            obtain ⟨_, _, q⟩ := HW3.out.places HR.out.2.2 b (List.mem_of_mem_take hb)
            simp [Value.ownBlock] at hg
            subst hg
            rw [e] at q
            rcases q with q | q | ⟨cs, q⟩
            · rw [q, HW3.out.box] at hc; cases hc
            · exact hne q.symm
            · rw [hc] at q; cases q
          clear hkm HQ HFX
          go_wp2_with fail
          refine (defsOf_calls K (some ⟨kg, 0, none⟩) kn kc wr (intA_own HKW.out.1 HKN.out (by unfold maxLen; omega)) (by omega)).mono ?_
          rintro e w5 ⟨da2, dc2, rfl, ho5, hb5⟩
          have HW5 : Hid (WkAt w5 base wb (rnR F x) vs y ∧ Below base w w5 ∧ w5.ownsRow base 34 4 (.slice da2 kn dc2) kn (dfRow (K.map numD)) ∧ w5.ownsRow base 3 1 (.slice (some ⟨kg, 0, none⟩) kn kc) kn (itRow K)) := by
            have hbr : base ≤ wr.heap.size := Nat.le_trans HWR.out.1.fro (Nat.le_of_lt (lt_block HWR.out.1.box))
            refine ⟨HWR.out.1.below hb5, HWR.out.2.trans (hb5.mono hbr), owned_base ho5 hbr, owned_below (owned_base HKW.out.1 (Nat.le_trans hbs HPW.out.2.size)) hb5⟩
          clear ho5 hb5 HWR
          have c1 : w5.cell? ⟨wb, 1, none⟩ = some (.slice y.da x.defs.length y.dc) := HW5.out.1.cell 1 _ rfl
          have c11 : w5.cell? ⟨wb, 11, none⟩ = some (.slice y.na vs.length y.nc) := HW5.out.1.cell 11 _ rfl
          have ff : ∀ i, w5.frozen? ⟨wb, i, none⟩ = false := fun i => HW5.out.1.froz i
          go_wp2
          go_end0
          refine ⟨rfl, ⟨⟨da2, dc2, y.sa, y.sc, y.ta, y.tc, some ⟨kg, 0, none⟩, kc, y.sl⟩, ?_⟩, (HW5.out.2.1.setCell HW.out.fro _).setCell HW.out.fro _⟩
          rw [HF.out.2]
          exact fold_end HW5.out.1 HKN.out HW5.out.2.2.1 HW5.out.2.2.2 (fun e => HKW.out.2 (by rw [e]; rfl))
end Go.Proofs.Ytolehoibpnenlab
