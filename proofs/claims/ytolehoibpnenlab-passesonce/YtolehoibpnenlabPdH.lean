/-
  The states that can be come to: found.
-/
import Derived.Test.YtolehoibpnenlabPdG
import Derived.Test.YtolehoibpnenlabPsZ
import Derived.Test.YtolehoibpnenlabPoB
namespace Go.Proofs.Ytolehoibpnenlab
open Go.RowKit Go.Deep Go.Maps

/-- A guarded call of a function that is wanted. -/
theorem step_fnw {P : Program} {ops : Array Oper} {o : Oper} {a : Act} {w : World} {K : Act → World → Prop} {Q : Exit → Act → World → Prop} {E : Prop}
    (hw : Region.wanted o (yielded ops a.tmps) = true) (f : FuncId) (args : Array Operand) (tys : Array TypeId) (hop : o.op = Op.call { callee := Callee.value (Operand.func f), args := args, argTypes := tys })
    (fn : Func) (hf : P.funcs[f]? = some fn) (hname : (fn.name == "runtime.NumGoroutine") = false) (hbody : fn.body.isNone = false)
    (vs : Array Value) (hvs : args.map a.eval = vs) {R : Ending → World → Prop} (hc : Calls P f vs w R) (hR : ∀ e w', R e w' → ∃ v, e = .returned v ∧ K (a.put o.dst v) w') :
    if Region.wanted o (yielded ops a.tmps) = true then Oper.wp P o a w K Q else E := by
  rw [if_pos hw]
  unfold Oper.wp
  have hrun : (execOp a.eval o).run P w = .ok (.enter f vs) w := by
    have h1 : ¬ fn.name = "runtime.NumGoroutine" := by simpa using hname
    have h2 : ¬ fn.body = none := fun e => by rw [e] at hbody; cases hbody
    simp [execOp, hop, resolve, invoke, hvs, Act.eval, go_sem, callFunc, hf, h1, h2]
  rw [hrun, Oper.upon_enter]
  refine hc.mono ?_
  intro e w' h
  obtain ⟨v, rfl, hk⟩ := hR e w' h
  exact hk
set_option maxRecDepth 20000 in
set_option maxHeartbeats 1000000 in
theorem lead_calls (f : List Bool) (a b : Int) (cb lg n : Nat) (w : World) (h : w.cell? ⟨cb, 0, none⟩ = some (.slice (some ⟨lg, 0, none⟩) n n)) (hc : ∀ k, k < n → w.cell? ⟨lg, k, none⟩ = some (.bool (f.getD k false))) (ha : -1 ≤ a) (ha2 : a < n) :
    Calls Try.prog 58 #[.agg #[.int .i64 a, .int .i64 b], .pointer (some ⟨cb, 0, none⟩)] w fun r w' => r = .returned (.bool (leadB f a)) ∧ Below w.heap.size w w' := by
  have hb0 : Below w.heap.size w (w.alloc (.cells #[.int .i64 a, .int .i64 b] 42)) := (Below.refl _ _).alloc (Nat.le_refl _) _
  have hcb : (w.alloc (.cells #[.int .i64 a, .int .i64 b] 42)).cell? ⟨cb, 0, none⟩ = some (.slice (some ⟨lg, 0, none⟩) n n) := by
    rw [hb0.cell (World.block_lt_of_cell? w _ h)]; exact h
  have HB : Hid (Below w.heap.size w (w.alloc (.cells #[.int .i64 a, .int .i64 b] 42))) := hb0
  by_cases h1 : a = -1
  · have HV : Hid (leadB f a = true) := by simp [leadB, h1, Hid]
    have hd : (a == -1) = true := by simpa using h1
    rw [HV.out]
    clear h hc hb0 h1 HV
    go_enter Try.func58, Try.ntmps58
    go_wp2
    go_ret
    exact ⟨rfl, HB.out⟩
  · obtain ⟨k, rfl⟩ : ∃ k : Nat, a = (k : Int) := ⟨a.toNat, by omega⟩
    have HV : Hid (leadB f (k : Int) = f.getD k false) := by
      show _ = _
      rw [leadB, decide_eq_false (by omega), Bool.false_or, Int.toNat_natCast]
    have hd : ((k : Int) == -1) = false := by simp
    have hck : (w.alloc (.cells #[.int .i64 (k : Int), .int .i64 b] 42)).cell? ⟨lg, k, none⟩ = some (.bool (f.getD k false)) := by
      have := hc k (by omega)
      rw [hb0.cell (World.block_lt_of_cell? w _ this)]; exact this
    obtain ⟨v, hv⟩ : ∃ v, f.getD k false = v := ⟨_, rfl⟩
    rw [hv] at hck HV
    rw [HV.out]
    clear h hc hb0 h1 HV hv
    go_enter Try.func58, Try.ntmps58
    go_wp2
    go_ret
    exact ⟨rfl, HB.out⟩
/-- What is told, and the cell beside it. -/
structure FW (w : World) (fb n : Nat) (f : List Bool) (wr : World) : Prop where
  low : Below w.heap.size w wr
  row : wr.ownsRow w.heap.size 4 1 (.slice (some ⟨w.heap.size, 0, none⟩) n n) n (blRow f)
  box : wr.heap[fb]? = some (.cells #[.slice (some ⟨w.heap.size, 0, none⟩) n n] 76 (0, 0))
  len : f.length = n
  apart : w.heap.size < fb
theorem FW.next {w : World} {fb n : Nat} {f : List Bool} {wr w2 : World} (h : FW w fb n f wr) (hb : Below wr.heap.size wr w2) : FW w fb n f w2 :=
  ⟨h.low.trans (hb.mono h.low.size), owned_below h.row hb, by rw [hb.block _ (lt_block h.box)]; exact h.box, h.len, h.apart⟩
theorem FW.cells {w : World} {fb n : Nat} {f : List Bool} {wr : World} (h : FW w fb n f wr) : ∀ k, k < n → wr.cell? ⟨w.heap.size, k, none⟩ = some (.bool (f.getD k false)) := fun k hk =>
  (owned_cells h.row k _ (blRow_get f (by rw [h.len]; exact hk))).1
theorem FW.set {w : World} {fb n : Nat} {f : List Bool} {wr : World} (h : FW w fb n f wr) (i : Nat) (b : Bool) : FW w fb n (f.set i b) (wr.setCell ⟨w.heap.size, i, none⟩ (.bool b)) := by
  have hg := grown_set wr w.heap.size i (.bool b)
  refine ⟨h.low.setCell (Nat.le_refl _) _, ?_, ?_, by rw [List.length_set]; exact h.len, h.apart⟩
  · have h1 := own_set h.row i (.bool b)
    rw [show (blRow f).set i (.bool b) = blRow (f.set i b) by simp [blRow, List.map_set]] at h1
    exact h1
  · rw [hg.block _ (lt_block h.box) (fun e => by injection e with e; have := h.apart; omega)]
    exact h.box
set_option maxRecDepth 20000 in
set_option maxHeartbeats 4000000 in
theorem found_calls (w : World) (base wb : Nat) (x : Rc) (vs : List Int) (y : Ly) (h : WkAt w base wb x vs y) (hr : rightR x = true) :
    Calls Try.prog 41 #[.pointer (some ⟨wb, 0, none⟩)] w fun e w' => RowPost 4 1 x.states.length (blRow (foundB x)) w e w' := by
  obtain ⟨i0, hi, hz0, hz1, hz2⟩ := info_parts info4b
  obtain ⟨n, hn⟩ : ∃ n, x.states.length = n := ⟨_, rfl⟩
  have hn9 : n ≤ 9 := by rw [← hn]; exact (right_states hr).1
  have HR : Hid (rightR x = true ∧ x.states.length = n) := ⟨hr, hn⟩
  have HW : Hid (∀ W, Below w.heap.size w W → WkAt W base wb x vs y) := fun W hW => h.below hW
  have hent : ∀ args W, (callFunc 58 args).run Try.prog W = .ok (.enter 58 args) W := enters_of Try.func58 (by kernel_rfl) rfl
  obtain ⟨ta, hta⟩ : ∃ ta, y.ta = ta := ⟨_, rfl⟩
  obtain ⟨tc, htc⟩ : ∃ tc, y.tc = tc := ⟨_, rfl⟩
  have HT : Hid (∀ W, Below w.heap.size w W → W.cell? ⟨wb, 10, none⟩ = some (.slice ta n tc)) := fun W hW => by
    rw [← hta, ← htc, ← hn]; exact (h.below hW).cell 10 _ rfl
  have HTA : Hid (y.ta = ta ∧ y.tc = tc) := ⟨hta, htc⟩
  have c10 := HT.out w (Below.refl _ _)
  rw [hn]
  clear h hr hn hta htc
  go_enter Try.func41, Try.ntmps41
  go_upto_region 2 with (at_make; refine wpList_make_full _ rfl _ _ 76 rfl w.heap.size 4 i0 (.bool false) 1 Try.underlying76 hi hz0 hz1 .i64 .i64 _ _ n rfl rfl rfl rfl (by rw [hz2]; omega) (by unfold maxLen; omega) (by simp) ?_; intro w2 hown hgrow)
  obtain ⟨fb, hfb⟩ : ∃ fb, w2.heap.size = fb := ⟨_, rfl⟩
  obtain ⟨w3, hw3⟩ : ∃ w3, w3 = w2.alloc (.cells #[.slice (some ⟨w.heap.size, 0, none⟩) n n] 76) := ⟨_, rfl⟩
  have HF0 : Hid (FW w fb n (roundsF x 0) w3) := by
    have hb1 : Below w.heap.size w w2 := (Below.refl _ _).grown hgrow (Nat.le_refl _) (fun k hk => by cases hk)
    have hb2 : Below w2.heap.size w2 w3 := by rw [hw3]; exact (Below.refl _ _).alloc (Nat.le_refl _) _
    have hrow : w2.ownsRow w.heap.size 4 1 (.slice (some ⟨w.heap.size, 0, none⟩) n n) n (blRow (roundsF x 0)) := by
      rw [roundsF, HR.out.2, ← made_bl]; simpa using hown
    refine ⟨hb1.trans (hb2.mono hb1.size), owned_below hrow hb2, by rw [hw3, ← hfb]; exact heap_alloc_new w2 _, by rw [roundsF, List.length_replicate]; exact HR.out.2, ?_⟩
    rw [← hfb]
    rcases hown.2 with ⟨hv, _⟩ | ⟨g', cap', cur, hv, _, hg', _⟩
    · cases hv
    · cases hv; exact lt_block hg'
  rw [hfb, ← hw3]
  clear hown hgrow hfb hw3 c10
  have c10 := HT.out w3 HF0.out.low
  go_wp2
  clear c10
  go_loopg [5, 6, 21, 29] n (fun q _ _ tv _ wr => ∃ (t : Nat), t + q = n ∧ tv = .int .i64 t ∧ Hid (FW w fb n (roundsF x t) wr))
  case atStart => exact ⟨0, by omega, rfl, HF0.out⟩
  case round =>
    clear HF0
    obtain ⟨t, htq, rfl, HQt⟩ := hrel
    obtain ⟨wt, rfl⟩ : ∃ wt, wt = wr := ⟨_, rfl⟩
    obtain ⟨gT, rfl⟩ : ∃ gT, gT = gk := ⟨_, rfl⟩
    have c10 := HT.out wt HQt.out.low
    by_cases htl : t < n
    · have hk0 : decide ((t : Int) < (n : Int)) = true := by simp; omega
      have HW0 : Hid (FW w fb n (sweepF x (roundsF x t) 0) wt) := HQt.out
      clear HQt
      go_wp2
      clear c10
      go_loopg [5, 6, 29] n (fun q _ _ iv wr => ∃ (i : Nat), i + q = n ∧ iv = .int .i64 i ∧ Hid (FW w fb n (sweepF x (roundsF x t) i) wr))
      case atStart => exact ⟨0, by omega, rfl, HW0.out⟩
      case round =>
        clear HW0 hk0
        obtain ⟨i, hiq, rfl, HQ⟩ := hrel
        by_cases hlt : i < n
        · obtain ⟨f, hf⟩ : ∃ f, sweepF x (roundsF x t) i = f := ⟨_, rfl⟩
          rw [hf] at HQ
          obtain ⟨s, hs⟩ : ∃ s, x.states[i]? = some s := ⟨x.states[i]'(by rw [HR.out.2]; exact hlt), List.getElem?_eq_getElem _⟩
          have hwk := HW.out wr HQ.out.low
          obtain ⟨rr, hrr⟩ : ∃ rr, y.sl[i]? = some rr := ⟨y.sl[i]'(by rw [hwk.rows.1, HR.out.2]; exact hlt), List.getElem?_eq_getElem _⟩
          obtain ⟨kd, ea, en, ec⟩ := rr
          obtain ⟨k1, k2, k3, k4⟩ := hwk.rows.2 i _ s hrr hs
          simp only at k1 k2 k4
          have hst := hwk.states
          rw [HTA.out.1, HTA.out.2, HR.out.2] at hst
          obtain ⟨tg, htc, ht, hbt, _⟩ := owned_some hst (by omega)
          obtain ⟨rfl, rfl⟩ : ta = some ⟨tg, 0, none⟩ ∧ htc = tc := by cases ht; exact ⟨rfl, rfl⟩
          have d0 := (owned_cells hst (i * 2 + 0) _ (flat_get (f := srCells) (s := 2) (fun _ => rfl) y.sl i _ 0 _ hrr rfl)).1
          have d1 := (owned_cells hst (i * 2 + 1) _ (flat_get (f := srCells) (s := 2) (fun _ => rfl) y.sl i _ 1 _ hrr rfl)).1
          rw [Nat.add_zero] at d0
          simp only [k1] at d0
          have hpc : PcsAt wr ea en s.2 := by
            have k5 := k4
            rw [k2] at k5
            obtain ⟨a, c, e, hp⟩ := pcs_own k5 (by unfold maxLen; omega)
            injection e with e1
            rw [e1, k2]; exact hp
          have HE : Hid (sweepF x (roundsF x t) i = f ∧ x.states[i]? = some s ∧ ∀ e ∈ s.2, -1 ≤ e.1 ∧ e.1 < (n : Int)) := ⟨hf, hs, fun e he => by
            have := right_costs HR.out.1 s (List.mem_of_getElem? hs) e he
            rw [HR.out.2] at this
            omega⟩
          have HP : Hid (PcsAt wr ea en s.2) := hpc
          have c10 := HT.out wr HQ.out.low
          clear hf hs hwk hrr k1 k2 k3 k4 hst ht hpc
          have hk0 : decide ((i : Int) < (n : Int)) = true := by simp; omega
          have hkd : (i : Int) < (n : Int) := by omega
          go_wp2_with fail
          obtain ⟨bx, hbx⟩ : ∃ bx, bx = wr.heap.size := ⟨_, rfl⟩
          obtain ⟨wa, hwa⟩ : ∃ wa, wa = wr.alloc (.cells #[.int .i64 s.1, .slice ea en ec] 39) := ⟨_, rfl⟩
          rw [← hwa, ← hbx]
          have HA : Hid (FW w fb n f wa ∧ PcsAt wa ea en s.2 ∧ wa.heap[bx]? = some (.cells #[.int .i64 s.1, .slice ea en ec] 39 (0, 0))) := by
            have hb : Below wr.heap.size wr wa := by rw [hwa]; exact (Below.refl _ _).alloc (Nat.le_refl _) _
            exact ⟨HQ.out.next hb, HP.out.below hb, by rw [hwa, hbx]; exact heap_alloc_new wr _⟩
          clear hbx hwa HQ HP d0 d1 c10
          have HS1 : Hid (∀ W, Below wa.heap.size wa W → W.cell? ⟨fb, 0, none⟩ = some (.slice (some ⟨w.heap.size, 0, none⟩) n n) ∧ W.cell? ⟨bx, 0, none⟩ = some (.int .i64 s.1) ∧ W.cell? ⟨bx, 1, none⟩ = some (.slice ea en ec)) := fun W hW => by
            have hbb : W.heap[bx]? = _ := (hW.block _ (lt_block HA.out.2.2)).trans HA.out.2.2
            exact ⟨blk (HA.out.1.next hW).box rfl, blk hbb rfl, blk hbb rfl⟩
          have HB : Hid (∀ W, Below wa.heap.size wa W → Calls Try.prog 59 #[.pointer (some ⟨wb, 0, none⟩), .int .i64 s.1] W fun e w' => e = .returned (.bool (barB x s.1)) ∧ w'.heap = W.heap ∧ Below W.heap.size W w') := fun W hW => bars_calls x base wb vs y s.1 W (HW.out W (HA.out.1.next hW).low)
          have HCn : Hid (∀ W, Below wa.heap.size wa W → Calls Try.prog 60 #[.slice ea en ec, .func (.func 58) #[] #[.pointer (some ⟨fb, 0, none⟩)]] W fun e w' => e = .returned (.bool (s.2.any fun e => leadB f e.1)) ∧ Below W.heap.size W w') := fun W hW =>
            contF_calls (fun e => leadB f e.1) 58 fb hent s.2 ea en ec W (HA.out.2.1.below hW) fun e he W' hW' => by
              have hf2 := (HA.out.1.next hW).next hW'
              exact lead_calls f e.1 e.2 fb w.heap.size n W' (blk hf2.box rfl) hf2.cells (HE.out.2.2 e he).1 (HE.out.2.2 e he).2
          have HO : Hid (okS x f s = (!barB x s.1 && s.2.any fun e => leadB f e.1)) := rfl
          have HStep : Hid (∀ W, Below wa.heap.size wa W → FW w fb n (sweepF x (roundsF x t) (i + 1)) (W.setCell ⟨w.heap.size, i, none⟩ (.bool (okS x f s)))) := fun W hW => by
            have h1 := (HA.out.1.next hW).set i (okS x f s)
            have h2 : sweepF x (roundsF x t) (i + 1) = f.set i (okS x f s) := by
              show stepF x (sweepF x (roundsF x t) i) i = _
              rw [HE.out.1, stepF, List.getD_eq_getElem?_getD, HE.out.2.1]
              rfl
            rw [h2]; exact h1
          have HCell : Hid (∀ W, Below wa.heap.size wa W → (∃ b0, W.cell? ⟨w.heap.size, i, none⟩ = some (.bool b0)) ∧ W.frozen? ⟨w.heap.size, i, none⟩ = false) := fun W hW => by
            have h1 := HA.out.1.next hW
            exact ⟨⟨_, h1.cells i hlt⟩, h1.row.frozenAt i⟩
          obtain ⟨ok, hok⟩ : ∃ ok, okS x f s = ok := ⟨_, rfl⟩
          obtain ⟨bb, hbb⟩ : ∃ bb, barB x s.1 = bb := ⟨_, rfl⟩
          rw [hok] at HO HStep
          rw [hbb] at HO HB
          clear hok hbb HA HE
          have hs0 := HS1.out wa.drew (Below.refl _ _).drew
          cases bb with
          | true =>
            have HO2 : Hid (ok = false) := HO.out
            rw [HO2.out] at HStep
            clear HO HO2 HCn
            refine wp_region_Y (fun j => [14].contains j) (fun W : World => W.cell? ⟨fb, 0, none⟩ = some (.slice (some ⟨w.heap.size, 0, none⟩) n n) ∧ W.cell? ⟨bx, 0, none⟩ = some (.int .i64 s.1) ∧ W.cell? ⟨bx, 1, none⟩ = some (.slice ea en ec)) (by kernel_rfl) ?_
            refine wpAnyY_takeD (i := 0) 34 (v := .slice (some ⟨w.heap.size, 0, none⟩) n n) rfl rfl (by kernel_rfl) (by kernel_rfl) (late_of (by kernel_rfl)) (by kernel_rfl) (by kernel_rfl) (fun _ _ _ h => h) hs0 (Or.inl ⟨by rfl, by (intro W hW; obtain ⟨s0, s1, s2⟩ := hW; go_simp)⟩) ?_
            simp only [Act.put, List.setIfInBounds_toArray, List.set_cons_succ, List.set_cons_zero]
            refine wpAnyY_pure (i := 1) 35 (v := .int .i64 (i : Int)) rfl rfl (by kernel_rfl) (by kernel_rfl) (by kernel_rfl) (fun _ _ _ h => h) (Or.inl ⟨by rfl, by (intro W _; go_simp)⟩) ?_
            simp only [Act.put, List.setIfInBounds_toArray, List.set_cons_succ, List.set_cons_zero]
            refine wpAnyY_pure (i := 2) 36 (v := .pointer (some ⟨wb, 0, none⟩)) rfl rfl (by kernel_rfl) (by kernel_rfl) (by kernel_rfl) (fun _ _ _ h => h) (Or.inl ⟨by rfl, by (intro W _; go_simp)⟩) ?_
            simp only [Act.put, List.setIfInBounds_toArray, List.set_cons_succ, List.set_cons_zero]
            refine wpAnyY_pure (i := 3) 37 (v := .pointer (some ⟨bx, 0, none⟩)) rfl rfl (by kernel_rfl) (by kernel_rfl) (by kernel_rfl) (fun _ _ _ h => h) (Or.inl ⟨by rfl, by (intro W _; go_simp)⟩) ?_
            simp only [Act.put, List.setIfInBounds_toArray, List.set_cons_succ, List.set_cons_zero]
            refine wpAnyY_takeD (i := 4) 38 (v := .int .i64 s.1) rfl rfl (by kernel_rfl) (by kernel_rfl) (late_of (by kernel_rfl)) (by kernel_rfl) (by kernel_rfl) (fun _ _ _ h => h) hs0 (Or.inl ⟨by rfl, by (intro W hW; obtain ⟨s0, s1, s2⟩ := hW; go_simp)⟩) ?_
            simp only [Act.put, List.setIfInBounds_toArray, List.set_cons_succ, List.set_cons_zero]
            refine wpAnyY_one (i := 5) rfl (by kernel_rfl) (fun Kc hKc => ?_)
            refine step_fn rfl 59 _ _ rfl Try.f59 Try.func59 (by kernel_rfl) (by kernel_rfl) #[.pointer (some ⟨wb, 0, none⟩), .int .i64 s.1] (by simp [Act.eval]) (HB.out wa.drew (Below.refl _ _).drew) ?_
            rintro e w4 ⟨rfl, _, hb4⟩
            have HX : Hid (Below wa.heap.size wa w4) := (Below.refl _ _).drew.trans hb4
            clear hb4
            refine ⟨_, rfl, hKc.out _ _ (fun _ _ => HS1.out _ HX.out) ?_⟩
            clear hKc Kc
            simp only [Act.put]
            have hs1 := HS1.out _ HX.out
            refine wpAnyY_pure (i := 6) 40 (v := .bool false) rfl rfl (by kernel_rfl) (by kernel_rfl) (by kernel_rfl) (fun _ _ _ h => h) (Or.inl ⟨by rfl, by (intro W _; go_simp)⟩) ?_
            simp only [Act.put, List.setIfInBounds_toArray]
            refine wpAnyY_pure (i := 7) 41 (v := .bool false) rfl rfl (by kernel_rfl) (by kernel_rfl) (by kernel_rfl) (fun _ _ _ h => h) (Or.inl ⟨by rfl, by (intro W _; go_simp)⟩) ?_
            simp only [Act.put]
            refine wpAnyY_pure (i := 8) 42 (v := undef) rfl rfl (by kernel_rfl) (by kernel_rfl) (by kernel_rfl) (fun _ _ _ h => h) (Or.inr ⟨by rfl, rfl⟩) ?_
            simp only [Act.put]
            refine wpAnyY_pure (i := 9) 43 (v := undef) rfl rfl (by kernel_rfl) (by kernel_rfl) (by kernel_rfl) (fun _ _ _ h => h) (Or.inr ⟨by rfl, rfl⟩) ?_
            simp only [Act.put]
            refine wpAnyY_pure (i := 10) 44 (v := undef) rfl rfl (by kernel_rfl) (by kernel_rfl) (by kernel_rfl) (fun _ _ _ h => h) (Or.inr ⟨by rfl, rfl⟩) ?_
            simp only [Act.put]
            refine wpAnyY_pure (i := 11) 45 (v := undef) rfl rfl (by kernel_rfl) (by kernel_rfl) (by kernel_rfl) (fun _ _ _ h => h) (Or.inr ⟨by rfl, rfl⟩) ?_
            simp only [Act.put]
            refine wpAnyY_pure (i := 12) 46 (v := .bool false) rfl rfl (by kernel_rfl) (by kernel_rfl) (by kernel_rfl) (fun _ _ _ h => h) (Or.inl ⟨by rfl, by (intro W _; go_simp)⟩) ?_
            simp only [Act.put]
            obtain ⟨⟨b0, hb0⟩, ff⟩ := HCell.out _ HX.out
            clear hs0 hs1
            refine wpAnyY_one (i := 13) rfl (by kernel_rfl) (fun Kc hKc => ?_)
            go_simp
            refine hKc.out _ _ (fun _ h => h) ?_
            clear hKc Kc
            refine wpAnyY_one (i := 14) rfl (by kernel_rfl) (fun Kc hKc => ?_)
            go_simp
            refine hKc.out _ _ (fun h => absurd h (by decide)) ?_
            clear hKc Kc
            refine wpAnyY_done (by kernel_rfl) ?_ _
            clear hb0 ff
            have HN : Hid (FW w fb n (sweepF x (roundsF x t) (i + 1)) (w4.setCell ⟨w.heap.size, i, none⟩ (.bool false))) := HStep.out _ HX.out
            clear HX HS1 HB HStep HCell
            go_wp2
            go_roundg (gk - 1)
            case measure => omega
            case rel => exact ⟨i + 1, by omega, by go_num, HN.out⟩
          | false =>
            have HO2 : Hid (ok = s.2.any fun e => leadB f e.1) := HO.out
            rw [← HO2.out] at HCn
            clear HO HO2
            refine wp_region_Y (fun j => [14].contains j) (fun W : World => W.cell? ⟨fb, 0, none⟩ = some (.slice (some ⟨w.heap.size, 0, none⟩) n n) ∧ W.cell? ⟨bx, 0, none⟩ = some (.int .i64 s.1) ∧ W.cell? ⟨bx, 1, none⟩ = some (.slice ea en ec)) (by kernel_rfl) ?_
            refine wpAnyY_takeD (i := 0) 34 (v := .slice (some ⟨w.heap.size, 0, none⟩) n n) rfl rfl (by kernel_rfl) (by kernel_rfl) (late_of (by kernel_rfl)) (by kernel_rfl) (by kernel_rfl) (fun _ _ _ h => h) hs0 (Or.inl ⟨by rfl, by (intro W hW; obtain ⟨s0, s1, s2⟩ := hW; go_simp)⟩) ?_
            simp only [Act.put, List.setIfInBounds_toArray, List.set_cons_succ, List.set_cons_zero]
            refine wpAnyY_pure (i := 1) 35 (v := .int .i64 (i : Int)) rfl rfl (by kernel_rfl) (by kernel_rfl) (by kernel_rfl) (fun _ _ _ h => h) (Or.inl ⟨by rfl, by (intro W _; go_simp)⟩) ?_
            simp only [Act.put, List.setIfInBounds_toArray, List.set_cons_succ, List.set_cons_zero]
            refine wpAnyY_pure (i := 2) 36 (v := .pointer (some ⟨wb, 0, none⟩)) rfl rfl (by kernel_rfl) (by kernel_rfl) (by kernel_rfl) (fun _ _ _ h => h) (Or.inl ⟨by rfl, by (intro W _; go_simp)⟩) ?_
            simp only [Act.put, List.setIfInBounds_toArray, List.set_cons_succ, List.set_cons_zero]
            refine wpAnyY_pure (i := 3) 37 (v := .pointer (some ⟨bx, 0, none⟩)) rfl rfl (by kernel_rfl) (by kernel_rfl) (by kernel_rfl) (fun _ _ _ h => h) (Or.inl ⟨by rfl, by (intro W _; go_simp)⟩) ?_
            simp only [Act.put, List.setIfInBounds_toArray, List.set_cons_succ, List.set_cons_zero]
            refine wpAnyY_takeD (i := 4) 38 (v := .int .i64 s.1) rfl rfl (by kernel_rfl) (by kernel_rfl) (late_of (by kernel_rfl)) (by kernel_rfl) (by kernel_rfl) (fun _ _ _ h => h) hs0 (Or.inl ⟨by rfl, by (intro W hW; obtain ⟨s0, s1, s2⟩ := hW; go_simp)⟩) ?_
            simp only [Act.put, List.setIfInBounds_toArray, List.set_cons_succ, List.set_cons_zero]
            refine wpAnyY_one (i := 5) rfl (by kernel_rfl) (fun Kc hKc => ?_)
            refine step_fn rfl 59 _ _ rfl Try.f59 Try.func59 (by kernel_rfl) (by kernel_rfl) #[.pointer (some ⟨wb, 0, none⟩), .int .i64 s.1] (by simp [Act.eval]) (HB.out wa.drew (Below.refl _ _).drew) ?_
            rintro e w4 ⟨rfl, _, hb4⟩
            have HX : Hid (Below wa.heap.size wa w4) := (Below.refl _ _).drew.trans hb4
            clear hb4
            refine ⟨_, rfl, hKc.out _ _ (fun _ _ => HS1.out _ HX.out) ?_⟩
            clear hKc Kc
            simp only [Act.put]
            have hs1 := HS1.out _ HX.out
            refine wpAnyY_pure (i := 6) 40 (v := .bool true) rfl rfl (by kernel_rfl) (by kernel_rfl) (by kernel_rfl) (fun _ _ _ h => h) (Or.inl ⟨by rfl, by (intro W _; go_simp)⟩) ?_
            simp only [Act.put, List.setIfInBounds_toArray]
            refine wpAnyY_pure (i := 7) 41 (v := .bool true) rfl rfl (by kernel_rfl) (by kernel_rfl) (by kernel_rfl) (fun _ _ _ h => h) (Or.inl ⟨by rfl, by (intro W _; go_simp)⟩) ?_
            simp only [Act.put]
            refine wpAnyY_pure (i := 8) 42 (v := .pointer (some ⟨bx, 1, none⟩)) rfl rfl (by kernel_rfl) (by kernel_rfl) (by kernel_rfl) (fun _ _ _ h => h) (Or.inl ⟨by rfl, by (intro W _; go_simp)⟩) ?_
            simp only [Act.put]
            refine wpAnyY_takeD (i := 9) 43 (v := .slice ea en ec) rfl rfl (by kernel_rfl) (by kernel_rfl) (late_of (by kernel_rfl)) (by kernel_rfl) (by kernel_rfl) (fun _ _ _ h => h) hs1 (Or.inl ⟨by rfl, by (intro W hW; obtain ⟨s0, s1, s2⟩ := hW; go_simp)⟩) ?_
            simp only [Act.put]
            refine wpAnyY_pure (i := 10) 44 (v := .func (.func 58) #[] #[.pointer (some ⟨fb, 0, none⟩)]) rfl rfl (by kernel_rfl) (by kernel_rfl) (by kernel_rfl) (fun _ _ _ h => h) (Or.inl ⟨by rfl, by (intro W _; go_simp)⟩) ?_
            simp only [Act.put]
            refine wpAnyY_one (i := 11) rfl (by kernel_rfl) (fun Kc hKc => ?_)
            refine step_fnw (by rfl) 60 _ _ rfl Try.f60 Try.func60 (by kernel_rfl) (by kernel_rfl) #[.slice ea en ec, .func (.func 58) #[] #[.pointer (some ⟨fb, 0, none⟩)]] (by simp [Act.eval]) (HCn.out w4 HX.out) ?_
            rintro e w5 ⟨rfl, hb5⟩
            have HY : Hid (Below wa.heap.size wa w5) := HX.out.trans (hb5.mono HX.out.size)
            clear hb5
            refine ⟨_, rfl, hKc.out _ _ (fun _ _ => HS1.out _ HY.out) ?_⟩
            clear hKc Kc
            simp only [Act.put]
            refine wpAnyY_pure (i := 12) 46 (v := .bool ok) rfl rfl (by kernel_rfl) (by kernel_rfl) (by kernel_rfl) (fun _ _ _ h => h) (Or.inl ⟨by rfl, by (intro W _; go_simp)⟩) ?_
            simp only [Act.put]
            obtain ⟨⟨b0, hb0⟩, ff⟩ := HCell.out _ HY.out
            clear hs0 hs1
            refine wpAnyY_one (i := 13) rfl (by kernel_rfl) (fun Kc hKc => ?_)
            go_simp
            refine hKc.out _ _ (fun _ h => h) ?_
            clear hKc Kc
            refine wpAnyY_one (i := 14) rfl (by kernel_rfl) (fun Kc hKc => ?_)
            go_simp
            refine hKc.out _ _ (fun h => absurd h (by decide)) ?_
            clear hKc Kc
            refine wpAnyY_done (by kernel_rfl) ?_ _
            clear hb0 ff
            have HN : Hid (FW w fb n (sweepF x (roundsF x t) (i + 1)) (w5.setCell ⟨w.heap.size, i, none⟩ (.bool ok))) := HStep.out _ HY.out
            clear HX HY HS1 HB HStep HCell
            go_wp2
            go_roundg (gk - 1)
            case measure => omega
            case rel => exact ⟨i + 1, by omega, by go_num, HN.out⟩
        · have hk0 : decide ((i : Int) < (n : Int)) = false := by simp; omega
          have HN : Hid (FW w fb n (roundsF x (t + 1)) wr) := by
            have h1 := HQ.out
            rw [show i = n by omega] at h1
            show FW w fb n (sweepF x (roundsF x t) x.states.length) wr
            rw [HR.out.2]; exact h1
          clear HQ
          go_wp2
          go_roundg (gT - 1)
          case measure => omega
          case rel => exact ⟨t + 1, by omega, by go_num, HN.out⟩
    · have hk0 : decide ((t : Int) < (n : Int)) = false := by simp; omega
      have HN : Hid (wt.ownsRow w.heap.size 4 1 (.slice (some ⟨w.heap.size, 0, none⟩) n n) n (blRow (foundB x)) ∧ Below w.heap.size w wt) := by
        rw [foundB, HR.out.2, show n = t by omega]
        have h1 := HQt.out
        rw [show n = t by omega] at h1
        exact ⟨h1.row, h1.low⟩
      have cf : wt.cell? ⟨fb, 0, none⟩ = some (.slice (some ⟨w.heap.size, 0, none⟩) n n) := blk HQt.out.box rfl
      clear HQt
      go_wp2
      go_ret
      exact ⟨_, _, rfl, HN.out⟩
end Go.Proofs.Ytolehoibpnenlab
