/-
  Prune: a gap state's twins.
-/
import Derived.Test.YtolehoibpnenlaaPrD
namespace Go.Proofs.Ytolehoibpnenlaa
open Go.RowKit Go.Deep Go.Maps

/-- A call of a function that is wanted; what it gives is put where it says. -/
theorem step_fnD {P : Program} {ops : Array Oper} {o : Oper} {a : Act} {w : World} {K : Act → World → Prop} {Q : Exit → Act → World → Prop} {E : Prop} (d : Nat) (hd : o.dst = some d)
    (hw : Region.wanted o (yielded ops a.tmps) = true) (f : FuncId) (args : Array Operand) (tys : Array TypeId) (hop : o.op = Op.call { callee := Callee.value (Operand.func f), args := args, argTypes := tys })
    (fn : Func) (hf : P.funcs[f]? = some fn) (hname : (fn.name == "runtime.NumGoroutine") = false) (hbody : fn.body.isNone = false)
    (vs : Array Value) (hvs : args.map a.eval = vs) {R : Ending → World → Prop} (hc : Calls P f vs w R) (hR : ∀ e w', R e w' → ∃ v, e = .returned v ∧ K (a.put (some d) v) w') :
    if Region.wanted o (yielded ops a.tmps) = true then Oper.wp P o a w K Q else E := by
  rw [← hd] at hR
  exact step_fnw hw f args tys hop fn hf hname hbody vs hvs hc hR
theorem info81 : (Try.prog.info? 81).map (fun i => (i.zero, i.size, i.bytes)) = some (some (.agg #[.int .i64 0, .int .i64 0]), 2, 16) := by kernel_rfl
theorem twinB_none {vs : List Int} {l : List St} {s k : Nat} (h : gapB vs l k = none) : twinB vs l s k = none := by rw [twinB, h]
theorem twinB_some {vs : List Int} {l : List St} {s k : Nat} {g : Int × Int} (h : gapB vs l k = some g) : twinB vs l s k = if k ≠ s ∧ (l.getD k (0, [])).1 = (l.getD s (0, [])).1 ∧ comeB l s k = true ∧ leadA vs l s k = true then some g else none := by rw [twinB, h]
def twL (vs : List Int) (l : List St) (s k : Nat) : List (Int × Int) := (List.range k).filterMap (twinB vs l s)
theorem twL_none {vs : List Int} {l : List St} {s k : Nat} (h : twinB vs l s k = none) : twL vs l s (k + 1) = twL vs l s k := by
  rw [twL, List.range_succ, List.filterMap_append, List.filterMap_cons_none h, twL]
  simp
theorem twL_some {vs : List Int} {l : List St} {s k : Nat} {g : Int × Int} (h : twinB vs l s k = some g) : twL vs l s (k + 1) = twL vs l s k ++ [g] := by
  rw [twL, List.range_succ, List.filterMap_append, List.filterMap_cons_some h, twL]
  simp
theorem twL_len (vs : List Int) (l : List St) (s k : Nat) : (twL vs l s k).length ≤ k := by
  rw [twL]
  have := List.length_filterMap_le (twinB vs l s) (List.range k)
  rwa [List.length_range] at this
theorem gp_new (W : World) (e : Int × Int) : SrcAt (W.alloc (.cells #[.int .i64 e.1, .int .i64 e.2] 81)) (some ⟨W.heap.size, 0, none⟩) 1 2 (pcCells e) := by
  refine ⟨rfl, fun u hu => ?_, .inr ⟨_, rfl, cells_new W (pcCells e) 81⟩⟩
  simp [pcCells] at hu
  rcases hu with rfl | rfl <;> rfl
set_option maxRecDepth 20000 in
set_option maxHeartbeats 8000000 in
theorem twinsOf_calls (w : World) (base wb : Nat) (x : Rc) (vs : List Int) (y : Ly) (h : WkAt w base wb x vs y) (hok : SOk vs.length x.states) (s : Nat) (hs : s < x.states.length) :
    Calls Try.prog 60 #[.pointer (some ⟨wb, 0, none⟩), .int .i64 (s : Int)] w fun e w' => RowPost 81 2 (twinsB vs x.states s).length (pcRow (twinsB vs x.states s)) w e w' := by
  obtain ⟨i81, hi81, hz810, hz811, hz812⟩ := info_parts info81
  obtain ⟨n, hn⟩ : ∃ n, x.states.length = n := ⟨_, rfl⟩
  have hn9 : n ≤ 9 := by rw [← hn]; exact hok.1
  obtain ⟨tg, ea, en, ec, hta, hrd⟩ := h.st (st_at hs)
  obtain ⟨tc, htc⟩ : ∃ tc, y.tc = tc := ⟨_, rfl⟩
  have HSt : Hid (∀ W t, Below w.heap.size w W → t < n → W.cell? ⟨wb, 10, none⟩ = some (.slice (some ⟨tg, 0, none⟩) n tc) ∧ W.cell? ⟨tg, t * 2, none⟩ = some (.int .i64 (x.states.getD t (0, [])).1)) := fun W t hW ht => by
    obtain ⟨tg2, _, _, _, hta2, hrd2⟩ := h.st (st_at (l := x.states) (by rw [hn]; exact ht))
    rw [hta] at hta2
    injection hta2 with e1
    injection e1 with e2
    subst e2
    obtain ⟨q1, q2, _⟩ := hrd2 W hW
    rw [hn, htc] at q1
    exact ⟨q1, q2⟩
  have HGp : Hid (∀ W t, Below w.heap.size w W → t < n → Calls Try.prog 58 #[.pointer (some ⟨wb, 0, none⟩), .int .i64 (t : Int)] W fun e w' => e = .returned (.tuple #[.agg #[.int .i64 (gpV (gapB vs x.states t)).1, .int .i64 (gpV (gapB vs x.states t)).2], .bool (gapB vs x.states t).isSome]) ∧ Below W.heap.size W w') := fun W t hW ht => gap_calls W base wb x vs y (h.below hW) hok t (by rw [hn]; exact ht)
  have HCm : Hid (∀ W t, Below w.heap.size w W → t < n → Calls Try.prog 77 #[.pointer (some ⟨wb, 0, none⟩), .int .i64 (s : Int), .int .i64 (t : Int)] W fun e w' => e = .returned (.bool (comeB x.states s t)) ∧ Below W.heap.size W w') := fun W t hW ht => come_calls W base wb x vs y (h.below hW) s t hs (by rw [hn]; exact ht)
  have HLd : Hid (∀ W (t : Nat), Below w.heap.size w W → Calls Try.prog 78 #[.pointer (some ⟨wb, 0, none⟩), .int .i64 (s : Int), .int .i64 (t : Int)] W fun e w' => e = .returned (.bool (leadA vs x.states s t)) ∧ Below W.heap.size W w') := fun W t hW => leadA_calls W base wb x vs y (h.below hW) hok s t
  have HTw : Hid (twinsB vs x.states s = twL vs x.states s n) := by show _ = _; rw [twinsB, hn]; rfl
  rw [HTw.out]
  rw [hn] at hs
  have c10 := (HSt.out w s (Below.refl _ _) hs).1
  clear h hok hn hta htc hrd HTw
  have hsd : (s : Int) < (n : Int) := by omega
  go_enter Try.func60, Try.ntmps60
  go_wp2
  clear c10
  go_loopg [5, 6, 7, 8, 15] n (fun q lv _ _ _ kv wr => ∃ (k m : Nat) (ao : Option Addr) (cap : Nat), k + q = n ∧ kv = .int .i64 k ∧ lv = .slice ao m cap ∧ Hid (m = (twL vs x.states s k).length ∧ wr.ownsRow w.heap.size 81 2 (.slice ao m cap) m (pcRow (twL vs x.states s k)) ∧ Below w.heap.size w wr))
  case atStart => exact ⟨0, 0, none, 0, by omega, rfl, rfl, rfl, none_row _ _ _ _, Below.refl _ _⟩
  case round =>
    obtain ⟨k, m, ao, cap, hkq, rfl, rfl, HQ⟩ := hrel
    by_cases hlt : k < n
    · have hz0 : decide ((k : Int) < (n : Int)) = true := by simp; omega
      have hzd : (k : Int) < (n : Int) := by omega
      have hm9 : m ≤ 9 := by
        have h1 := HQ.out.1
        have h2 := twL_len vs x.states s k
        omega
      obtain ⟨G, hG⟩ : ∃ G, gapB vs x.states k = G := ⟨_, rfl⟩
      have HG : Hid (gapB vs x.states k = G) := hG
      obtain ⟨ok, hok⟩ : ∃ ok, G.isSome = ok := ⟨_, rfl⟩
      have HC : Hid (Calls Try.prog 58 #[.pointer (some ⟨wb, 0, none⟩), .int .i64 (k : Int)] wr fun e w' => e = .returned (.tuple #[.agg #[.int .i64 (gpV G).1, .int .i64 (gpV G).2], .bool ok]) ∧ Below wr.heap.size wr w') := by rw [← hok, ← hG]; exact HGp.out wr k HQ.out.2.2 hlt
      have HOk : Hid (G.isSome = ok) := hok
      clear hG hok
      go_wp2_with fail
      refine HC.out.mono ?_
      rintro e w1 ⟨rfl, hb1⟩
      go_upto_region 6 with (fail)
      obtain ⟨gb, hgb⟩ : ∃ gb, w1.heap.size = gb := ⟨_, rfl⟩
      obtain ⟨w2, hw2⟩ : ∃ w2, w2 = w1.alloc (.cells #[.int .i64 (gpV G).1, .int .i64 (gpV G).2] 81) := ⟨_, rfl⟩
      rw [← hw2, hgb]
      have HB2 : Hid (Below wr.heap.size wr w2 ∧ Below w.heap.size w w2 ∧ w2.heap[gb]? = some (.cells #[.int .i64 (gpV G).1, .int .i64 (gpV G).2] 81 (0, 0))) := by
        have h0 : Below w1.heap.size w1 w2 := by rw [hw2]; exact (Below.refl _ _).alloc (Nat.le_refl _) _
        have h1 := hb1.trans (h0.mono hb1.size)
        exact ⟨h1, HQ.out.2.2.trans (h1.mono HQ.out.2.2.size), by rw [hw2, ← hgb]; exact heap_alloc_new w1 _⟩
      clear hb1 hgb hw2 HC
      have HNo : Hid (twinB vs x.states s k = none → ∀ W, Below w2.heap.size w2 W → m = (twL vs x.states s (k + 1)).length ∧ W.ownsRow w.heap.size 81 2 (.slice ao m cap) m (pcRow (twL vs x.states s (k + 1))) ∧ Below w.heap.size w W) := fun ht W hW => by
        rw [twL_none ht]
        have hb := HB2.out.1.trans (hW.mono HB2.out.1.size)
        exact ⟨HQ.out.1, owned_below HQ.out.2.1 hb, HQ.out.2.2.trans (hb.mono HQ.out.2.2.size)⟩
      have hb0 : Below w2.heap.size w2 w2.drew := (Below.refl _ _).drew
      have HS1 : Hid (∀ W, Below w2.heap.size w2 W → W.cell? ⟨wb, 10, none⟩ = some (.slice (some ⟨tg, 0, none⟩) n tc) ∧ W.cell? ⟨tg, k * 2, none⟩ = some (.int .i64 (x.states.getD k (0, [])).1) ∧ W.cell? ⟨tg, s * 2, none⟩ = some (.int .i64 (x.states.getD s (0, [])).1)) := fun W hW => by
        have hb := HB2.out.2.1.trans (hW.mono HB2.out.2.1.size)
        exact ⟨(HSt.out W k hb hlt).1, (HSt.out W k hb hlt).2, (HSt.out W s hb hs).2⟩
      obtain ⟨kt, hkt⟩ : ∃ kt, (x.states.getD k (0, [])).1 = kt := ⟨_, rfl⟩
      obtain ⟨ks, hks⟩ : ∃ ks, (x.states.getD s (0, [])).1 = ks := ⟨_, rfl⟩
      rw [hkt, hks] at HS1
      have HKK : Hid ((x.states.getD k (0, [])).1 = kt ∧ (x.states.getD s (0, [])).1 = ks) := ⟨hkt, hks⟩
      clear hkt hks
      cases G with
      | none =>
        obtain rfl : false = ok := HOk.out
        have HT0 : Hid (twinB vs x.states s k = none) := twinB_none HG.out
        clear HOk
        go_quiet (fail)
        have HN : Hid (m = (twL vs x.states s (k + 1)).length ∧ (w2.drewN nq).ownsRow w.heap.size 81 2 (.slice ao m cap) m (pcRow (twL vs x.states s (k + 1))) ∧ Below w.heap.size w (w2.drewN nq)) := HNo.out HT0.out _ (below_dn (Below.refl _ _) nq)
        clear HNo HT0 HQ
        go_wp2
        go_roundg (gk - 1)
        case measure => omega
        case rel => exact ⟨k + 1, m, ao, cap, by omega, by go_num, rfl, HN.out⟩
      | some g =>
        obtain rfl : true = ok := HOk.out
        have HTB : Hid (twinB vs x.states s k = if k ≠ s ∧ kt = ks ∧ comeB x.states s k = true ∧ leadA vs x.states s k = true then some g else none) := by
          show _ = _
          rw [twinB_some HG.out, HKK.out.1, HKK.out.2]
        clear HOk HKK
        by_cases hks : k = s
        · have HT0 : Hid (twinB vs x.states s k = none) := by show _ = _; rw [HTB.out]; simp [hks]
          have hkse : ((k : Int) != (s : Int)) = false := by simp; omega
          clear HTB hks
          go_quiet (fail)
          have HN : Hid (m = (twL vs x.states s (k + 1)).length ∧ (w2.drewN nq).ownsRow w.heap.size 81 2 (.slice ao m cap) m (pcRow (twL vs x.states s (k + 1))) ∧ Below w.heap.size w (w2.drewN nq)) := HNo.out HT0.out _ (below_dn (Below.refl _ _) nq)
          clear HNo HT0 HQ
          go_wp2
          go_roundg (gk - 1)
          case measure => omega
          case rel => exact ⟨k + 1, m, ao, cap, by omega, by go_num, rfl, HN.out⟩
        · have hkse : ((k : Int) != (s : Int)) = true := by simp; omega
          have hs0 := HS1.out w2.drew hb0
          by_cases hkk : kt = ks
          · have hke : (kt == ks) = true := by simpa using hkk
            have HCk : Hid (Calls Try.prog 77 #[.pointer (some ⟨wb, 0, none⟩), .int .i64 (s : Int), .int .i64 (k : Int)] w2.drew fun e w' => e = .returned (.bool (comeB x.states s k)) ∧ Below w2.drew.heap.size w2.drew w') := HCm.out w2.drew k (HB2.out.2.1.trans (hb0.mono HB2.out.2.1.size)) hlt
            have HTc : Hid (twinB vs x.states s k = if comeB x.states s k = true ∧ leadA vs x.states s k = true then some g else none) := by
              show _ = _
              rw [HTB.out]
              simp [hks, hkk]
            clear HTB hks hkk
            have HLk : Hid (∀ W, Below w2.heap.size w2 W → Calls Try.prog 78 #[.pointer (some ⟨wb, 0, none⟩), .int .i64 (s : Int), .int .i64 (k : Int)] W fun e w' => e = .returned (.bool (leadA vs x.states s k)) ∧ Below W.heap.size W w') := fun W hW => HLd.out W k (HB2.out.2.1.trans (hW.mono HB2.out.2.1.size))
            obtain ⟨V, hV⟩ : ∃ V, leadA vs x.states s k = V := ⟨_, rfl⟩
            obtain ⟨C, hC⟩ : ∃ C, comeB x.states s k = C := ⟨_, rfl⟩
            rw [hV] at HLk HTc
            rw [hC] at HCk HTc
            clear hV hC
            refine wp_region_Y (fun j => [].contains j) (fun W : World => W.cell? ⟨wb, 10, none⟩ = some (.slice (some ⟨tg, 0, none⟩) n tc) ∧ W.cell? ⟨tg, k * 2, none⟩ = some (.int .i64 kt) ∧ W.cell? ⟨tg, s * 2, none⟩ = some (.int .i64 ks)) (by kernel_rfl) ?_
            refine wpAnyY_pure (i := 0) 24 (v := .bool true) rfl rfl (by kernel_rfl) (by kernel_rfl) (by kernel_rfl) (fun _ _ _ h => h) (Or.inl ⟨by rfl, by (intro W _; go_simp)⟩) ?_
            simp only [Act.put, List.setIfInBounds_toArray, List.set_cons_succ, List.set_cons_zero]
            refine wpAnyY_pure (i := 1) 25 (v := .bool true) rfl rfl (by kernel_rfl) (by kernel_rfl) (by kernel_rfl) (fun _ _ _ h => h) (Or.inl ⟨by rfl, by (intro W _; go_simp)⟩) ?_
            simp only [Act.put, List.setIfInBounds_toArray, List.set_cons_succ, List.set_cons_zero]
            refine wpAnyY_pure (i := 2) 26 (v := .int .i64 (k : Int)) rfl rfl (by kernel_rfl) (by kernel_rfl) (by kernel_rfl) (fun _ _ _ h => h) (Or.inl ⟨by rfl, by (intro W _; go_simp)⟩) ?_
            simp only [Act.put, List.setIfInBounds_toArray, List.set_cons_succ, List.set_cons_zero]
            refine wpAnyY_pure (i := 3) 27 (v := .int .i64 (s : Int)) rfl rfl (by kernel_rfl) (by kernel_rfl) (by kernel_rfl) (fun _ _ _ h => h) (Or.inl ⟨by rfl, by (intro W _; go_simp)⟩) ?_
            simp only [Act.put, List.setIfInBounds_toArray, List.set_cons_succ, List.set_cons_zero]
            refine wpAnyY_pure (i := 4) 28 (v := .bool true) rfl rfl (by kernel_rfl) (by kernel_rfl) (by kernel_rfl) (fun _ _ _ h => h) (Or.inl ⟨by rfl, by (intro W _; go_simp)⟩) ?_
            simp only [Act.put, List.setIfInBounds_toArray, List.set_cons_succ, List.set_cons_zero]
            refine wpAnyY_pure (i := 5) 29 (v := .bool true) rfl rfl (by kernel_rfl) (by kernel_rfl) (by kernel_rfl) (fun _ _ _ h => h) (Or.inl ⟨by rfl, by (intro W _; go_simp)⟩) ?_
            simp only [Act.put, List.setIfInBounds_toArray, List.set_cons_succ, List.set_cons_zero]
            refine wpAnyY_pure (i := 6) 30 (v := .bool true) rfl rfl (by kernel_rfl) (by kernel_rfl) (by kernel_rfl) (fun _ _ _ h => h) (Or.inl ⟨by rfl, by (intro W _; go_simp)⟩) ?_
            simp only [Act.put, List.setIfInBounds_toArray, List.set_cons_succ, List.set_cons_zero]
            refine wpAnyY_pure (i := 7) 31 (v := .pointer (some ⟨wb, 0, none⟩)) rfl rfl (by kernel_rfl) (by kernel_rfl) (by kernel_rfl) (fun _ _ _ h => h) (Or.inl ⟨by rfl, by (intro W _; go_simp)⟩) ?_
            simp only [Act.put, List.setIfInBounds_toArray, List.set_cons_succ, List.set_cons_zero]
            refine wpAnyY_pure (i := 8) 32 (v := .pointer (some ⟨wb, 0, none⟩)) rfl rfl (by kernel_rfl) (by kernel_rfl) (by kernel_rfl) (fun _ _ _ h => h) (Or.inl ⟨by rfl, by (intro W _; go_simp)⟩) ?_
            simp only [Act.put, List.setIfInBounds_toArray, List.set_cons_succ, List.set_cons_zero]
            refine wpAnyY_pure (i := 9) 33 (v := .pointer (some ⟨wb, 0, none⟩)) rfl rfl (by kernel_rfl) (by kernel_rfl) (by kernel_rfl) (fun _ _ _ h => h) (Or.inl ⟨by rfl, by (intro W _; go_simp)⟩) ?_
            simp only [Act.put, List.setIfInBounds_toArray, List.set_cons_succ, List.set_cons_zero]
            refine wpAnyY_pure (i := 10) 34 (v := .pointer (some ⟨wb, 10, none⟩)) rfl rfl (by kernel_rfl) (by kernel_rfl) (by kernel_rfl) (fun _ _ _ h => h) (Or.inl ⟨by rfl, by (intro W _; go_simp)⟩) ?_
            simp only [Act.put, List.setIfInBounds_toArray, List.set_cons_succ, List.set_cons_zero]
            refine wpAnyY_takeD (i := 11) 35 (v := .slice (some ⟨tg, 0, none⟩) n tc) rfl rfl (by kernel_rfl) (by kernel_rfl) (late_of (by kernel_rfl)) (by kernel_rfl) (by kernel_rfl) (fun _ _ _ h => h) hs0 (Or.inl ⟨by rfl, by (intro W hW; obtain ⟨s0, s1, s2⟩ := hW; go_simp)⟩) ?_
            simp only [Act.put, List.setIfInBounds_toArray, List.set_cons_succ, List.set_cons_zero]
            refine wpAnyY_pure (i := 12) 36 (v := .int .i64 (k : Int)) rfl rfl (by kernel_rfl) (by kernel_rfl) (by kernel_rfl) (fun _ _ _ h => h) (Or.inl ⟨by rfl, by (intro W _; go_simp)⟩) ?_
            simp only [Act.put, List.setIfInBounds_toArray, List.set_cons_succ, List.set_cons_zero]
            refine wpAnyY_pure (i := 13) 37 (v := .pointer (some ⟨tg, k * 2, none⟩)) rfl rfl (by kernel_rfl) (by kernel_rfl) (by kernel_rfl) (fun _ _ _ h => h) (Or.inl ⟨by rfl, by (intro W _; go_simp)⟩) ?_
            simp only [Act.put, List.setIfInBounds_toArray, List.set_cons_succ, List.set_cons_zero]
            refine wpAnyY_pure (i := 14) 38 (v := .pointer (some ⟨tg, k * 2, none⟩)) rfl rfl (by kernel_rfl) (by kernel_rfl) (by kernel_rfl) (fun _ _ _ h => h) (Or.inl ⟨by rfl, by (intro W _; go_simp)⟩) ?_
            simp only [Act.put, List.setIfInBounds_toArray, List.set_cons_succ, List.set_cons_zero]
            refine wpAnyY_takeD (i := 15) 39 (v := .int .i64 kt) rfl rfl (by kernel_rfl) (by kernel_rfl) (late_of (by kernel_rfl)) (by kernel_rfl) (by kernel_rfl) (fun _ _ _ h => h) hs0 (Or.inl ⟨by rfl, by (intro W hW; obtain ⟨s0, s1, s2⟩ := hW; go_simp)⟩) ?_
            simp only [Act.put, List.setIfInBounds_toArray, List.set_cons_succ, List.set_cons_zero]
            refine wpAnyY_pure (i := 16) 40 (v := .pointer (some ⟨wb, 0, none⟩)) rfl rfl (by kernel_rfl) (by kernel_rfl) (by kernel_rfl) (fun _ _ _ h => h) (Or.inl ⟨by rfl, by (intro W _; go_simp)⟩) ?_
            simp only [Act.put, List.setIfInBounds_toArray, List.set_cons_succ, List.set_cons_zero]
            refine wpAnyY_pure (i := 17) 41 (v := .pointer (some ⟨wb, 0, none⟩)) rfl rfl (by kernel_rfl) (by kernel_rfl) (by kernel_rfl) (fun _ _ _ h => h) (Or.inl ⟨by rfl, by (intro W _; go_simp)⟩) ?_
            simp only [Act.put, List.setIfInBounds_toArray, List.set_cons_succ, List.set_cons_zero]
            refine wpAnyY_pure (i := 18) 42 (v := .pointer (some ⟨wb, 0, none⟩)) rfl rfl (by kernel_rfl) (by kernel_rfl) (by kernel_rfl) (fun _ _ _ h => h) (Or.inl ⟨by rfl, by (intro W _; go_simp)⟩) ?_
            simp only [Act.put, List.setIfInBounds_toArray, List.set_cons_succ, List.set_cons_zero]
            refine wpAnyY_pure (i := 19) 43 (v := .pointer (some ⟨wb, 10, none⟩)) rfl rfl (by kernel_rfl) (by kernel_rfl) (by kernel_rfl) (fun _ _ _ h => h) (Or.inl ⟨by rfl, by (intro W _; go_simp)⟩) ?_
            simp only [Act.put, List.setIfInBounds_toArray, List.set_cons_succ, List.set_cons_zero]
            refine wpAnyY_takeD (i := 20) 44 (v := .slice (some ⟨tg, 0, none⟩) n tc) rfl rfl (by kernel_rfl) (by kernel_rfl) (late_of (by kernel_rfl)) (by kernel_rfl) (by kernel_rfl) (fun _ _ _ h => h) hs0 (Or.inl ⟨by rfl, by (intro W hW; obtain ⟨s0, s1, s2⟩ := hW; go_simp)⟩) ?_
            simp only [Act.put, List.setIfInBounds_toArray, List.set_cons_succ, List.set_cons_zero]
            refine wpAnyY_pure (i := 21) 45 (v := .int .i64 (s : Int)) rfl rfl (by kernel_rfl) (by kernel_rfl) (by kernel_rfl) (fun _ _ _ h => h) (Or.inl ⟨by rfl, by (intro W _; go_simp)⟩) ?_
            simp only [Act.put, List.setIfInBounds_toArray, List.set_cons_succ, List.set_cons_zero]
            refine wpAnyY_pure (i := 22) 46 (v := .pointer (some ⟨tg, s * 2, none⟩)) rfl rfl (by kernel_rfl) (by kernel_rfl) (by kernel_rfl) (fun _ _ _ h => h) (Or.inl ⟨by rfl, by (intro W _; go_simp)⟩) ?_
            simp only [Act.put, List.setIfInBounds_toArray, List.set_cons_succ, List.set_cons_zero]
            refine wpAnyY_pure (i := 23) 47 (v := .pointer (some ⟨tg, s * 2, none⟩)) rfl rfl (by kernel_rfl) (by kernel_rfl) (by kernel_rfl) (fun _ _ _ h => h) (Or.inl ⟨by rfl, by (intro W _; go_simp)⟩) ?_
            simp only [Act.put, List.setIfInBounds_toArray, List.set_cons_succ, List.set_cons_zero]
            refine wpAnyY_takeD (i := 24) 48 (v := .int .i64 ks) rfl rfl (by kernel_rfl) (by kernel_rfl) (late_of (by kernel_rfl)) (by kernel_rfl) (by kernel_rfl) (fun _ _ _ h => h) hs0 (Or.inl ⟨by rfl, by (intro W hW; obtain ⟨s0, s1, s2⟩ := hW; go_simp)⟩) ?_
            simp only [Act.put, List.setIfInBounds_toArray, List.set_cons_succ, List.set_cons_zero]
            refine wpAnyY_pure (i := 25) 49 (v := .bool true) rfl rfl (by kernel_rfl) (by kernel_rfl) (by kernel_rfl) (fun _ _ _ h => h) (Or.inl ⟨by rfl, by (intro W _; go_simp)⟩) ?_
            simp only [Act.put, List.setIfInBounds_toArray, List.set_cons_succ, List.set_cons_zero]
            refine wpAnyY_pure (i := 26) 50 (v := .bool true) rfl rfl (by kernel_rfl) (by kernel_rfl) (by kernel_rfl) (fun _ _ _ h => h) (Or.inl ⟨by rfl, by (intro W _; go_simp)⟩) ?_
            simp only [Act.put, List.setIfInBounds_toArray, List.set_cons_succ, List.set_cons_zero]
            refine wpAnyY_pure (i := 27) 51 (v := .bool true) rfl rfl (by kernel_rfl) (by kernel_rfl) (by kernel_rfl) (fun _ _ _ h => h) (Or.inl ⟨by rfl, by (intro W _; go_simp)⟩) ?_
            simp only [Act.put, List.setIfInBounds_toArray, List.set_cons_succ, List.set_cons_zero]
            refine wpAnyY_pure (i := 28) 52 (v := .pointer (some ⟨wb, 0, none⟩)) rfl rfl (by kernel_rfl) (by kernel_rfl) (by kernel_rfl) (fun _ _ _ h => h) (Or.inl ⟨by rfl, by (intro W _; go_simp)⟩) ?_
            simp only [Act.put, List.setIfInBounds_toArray, List.set_cons_succ, List.set_cons_zero]
            refine wpAnyY_pure (i := 29) 53 (v := .int .i64 (s : Int)) rfl rfl (by kernel_rfl) (by kernel_rfl) (by kernel_rfl) (fun _ _ _ h => h) (Or.inl ⟨by rfl, by (intro W _; go_simp)⟩) ?_
            simp only [Act.put, List.setIfInBounds_toArray, List.set_cons_succ, List.set_cons_zero]
            refine wpAnyY_pure (i := 30) 54 (v := .int .i64 (k : Int)) rfl rfl (by kernel_rfl) (by kernel_rfl) (by kernel_rfl) (fun _ _ _ h => h) (Or.inl ⟨by rfl, by (intro W _; go_simp)⟩) ?_
            simp only [Act.put, List.setIfInBounds_toArray, List.set_cons_succ, List.set_cons_zero]
            refine wpAnyY_one (i := 31) rfl (by kernel_rfl) (fun Kc hKc => ?_)
            refine step_fnD 55 rfl (by rfl) 77 _ _ rfl Try.f77 Try.func77 (by kernel_rfl) (by kernel_rfl) #[.pointer (some ⟨wb, 0, none⟩), .int .i64 (s : Int), .int .i64 (k : Int)] (by simp [Act.eval]) (HCk.out) ?_
            rintro e w3 ⟨rfl, hb3⟩
            have HX3 : Hid (Below w2.heap.size w2 w3) := hb0.trans hb3
            clear hb3
            refine ⟨_, rfl, hKc.out _ _ (fun _ _ => HS1.out _ HX3.out) ?_⟩
            clear hKc Kc
            simp only [Act.put, List.setIfInBounds_toArray, List.set_cons_succ, List.set_cons_zero]
            cases C with
            | false =>
              have HT0 : Hid (twinB vs x.states s k = none) := by show _ = _; rw [HTc.out]; simp
              clear HTc
              refine wpAnyY_pure (i := 32) 56 (v := .bool false) rfl rfl (by kernel_rfl) (by kernel_rfl) (by kernel_rfl) (fun _ _ _ h => h) (Or.inl ⟨by rfl, by (intro W _; go_simp)⟩) ?_
              simp only [Act.put, List.setIfInBounds_toArray, List.set_cons_succ, List.set_cons_zero]
              refine wpAnyY_pure (i := 33) 57 (v := .bool false) rfl rfl (by kernel_rfl) (by kernel_rfl) (by kernel_rfl) (fun _ _ _ h => h) (Or.inl ⟨by rfl, by (intro W _; go_simp)⟩) ?_
              simp only [Act.put, List.setIfInBounds_toArray, List.set_cons_succ, List.set_cons_zero]
              refine wpAnyY_pure (i := 34) 58 (v := undef) rfl rfl (by kernel_rfl) (by kernel_rfl) (by kernel_rfl) (fun _ _ _ h => h) (Or.inr ⟨by rfl, rfl⟩) ?_
              simp only [Act.put, List.setIfInBounds_toArray, List.set_cons_succ, List.set_cons_zero]
              refine wpAnyY_pure (i := 35) 59 (v := undef) rfl rfl (by kernel_rfl) (by kernel_rfl) (by kernel_rfl) (fun _ _ _ h => h) (Or.inr ⟨by rfl, rfl⟩) ?_
              simp only [Act.put, List.setIfInBounds_toArray, List.set_cons_succ, List.set_cons_zero]
              refine wpAnyY_pure (i := 36) 60 (v := undef) rfl rfl (by kernel_rfl) (by kernel_rfl) (by kernel_rfl) (fun _ _ _ h => h) (Or.inr ⟨by rfl, rfl⟩) ?_
              simp only [Act.put, List.setIfInBounds_toArray, List.set_cons_succ, List.set_cons_zero]
              refine wpAnyY_pure (i := 37) 61 (v := undef) rfl rfl (by kernel_rfl) (by kernel_rfl) (by kernel_rfl) (fun _ _ _ h => h) (Or.inr ⟨by rfl, rfl⟩) ?_
              simp only [Act.put, List.setIfInBounds_toArray, List.set_cons_succ, List.set_cons_zero]
              refine wpAnyY_pure (i := 38) 62 (v := .bool false) rfl rfl (by kernel_rfl) (by kernel_rfl) (by kernel_rfl) (fun _ _ _ h => h) (Or.inl ⟨by rfl, by (intro W _; go_simp)⟩) ?_
              simp only [Act.put, List.setIfInBounds_toArray, List.set_cons_succ, List.set_cons_zero]
              refine wpAnyY_done (by kernel_rfl) ?_ _
              clear hs0
              have HN : Hid (m = (twL vs x.states s (k + 1)).length ∧ w3.ownsRow w.heap.size 81 2 (.slice ao m cap) m (pcRow (twL vs x.states s (k + 1))) ∧ Below w.heap.size w w3) := HNo.out HT0.out _ HX3.out
              clear HNo HT0 HQ
              go_wp2
              go_roundg (gk - 1)
              case measure => omega
              case rel => exact ⟨k + 1, m, ao, cap, by omega, by go_num, rfl, HN.out⟩
            | true =>
              refine wpAnyY_pure (i := 32) 56 (v := .bool true) rfl rfl (by kernel_rfl) (by kernel_rfl) (by kernel_rfl) (fun _ _ _ h => h) (Or.inl ⟨by rfl, by (intro W _; go_simp)⟩) ?_
              simp only [Act.put, List.setIfInBounds_toArray, List.set_cons_succ, List.set_cons_zero]
              refine wpAnyY_pure (i := 33) 57 (v := .bool true) rfl rfl (by kernel_rfl) (by kernel_rfl) (by kernel_rfl) (fun _ _ _ h => h) (Or.inl ⟨by rfl, by (intro W _; go_simp)⟩) ?_
              simp only [Act.put, List.setIfInBounds_toArray, List.set_cons_succ, List.set_cons_zero]
              refine wpAnyY_pure (i := 34) 58 (v := .pointer (some ⟨wb, 0, none⟩)) rfl rfl (by kernel_rfl) (by kernel_rfl) (by kernel_rfl) (fun _ _ _ h => h) (Or.inl ⟨by rfl, by (intro W _; go_simp)⟩) ?_
              simp only [Act.put, List.setIfInBounds_toArray, List.set_cons_succ, List.set_cons_zero]
              refine wpAnyY_pure (i := 35) 59 (v := .int .i64 (s : Int)) rfl rfl (by kernel_rfl) (by kernel_rfl) (by kernel_rfl) (fun _ _ _ h => h) (Or.inl ⟨by rfl, by (intro W _; go_simp)⟩) ?_
              simp only [Act.put, List.setIfInBounds_toArray, List.set_cons_succ, List.set_cons_zero]
              refine wpAnyY_pure (i := 36) 60 (v := .int .i64 (k : Int)) rfl rfl (by kernel_rfl) (by kernel_rfl) (by kernel_rfl) (fun _ _ _ h => h) (Or.inl ⟨by rfl, by (intro W _; go_simp)⟩) ?_
              simp only [Act.put, List.setIfInBounds_toArray, List.set_cons_succ, List.set_cons_zero]
              refine wpAnyY_one (i := 37) rfl (by kernel_rfl) (fun Kc hKc => ?_)
              refine step_fnD 61 rfl (by rfl) 78 _ _ rfl Try.f78 Try.func78 (by kernel_rfl) (by kernel_rfl) #[.pointer (some ⟨wb, 0, none⟩), .int .i64 (s : Int), .int .i64 (k : Int)] (by simp [Act.eval]) (HLk.out w3 HX3.out) ?_
              rintro e w4 ⟨rfl, hb4⟩
              have HX4 : Hid (Below w2.heap.size w2 w4) := HX3.out.trans (hb4.mono HX3.out.size)
              clear hb4
              refine ⟨_, rfl, hKc.out _ _ (fun _ _ => HS1.out _ HX4.out) ?_⟩
              clear hKc Kc
              simp only [Act.put, List.setIfInBounds_toArray, List.set_cons_succ, List.set_cons_zero]
              refine wpAnyY_pure (i := 38) 62 (v := .bool V) rfl rfl (by kernel_rfl) (by kernel_rfl) (by kernel_rfl) (fun _ _ _ h => h) (Or.inl ⟨by rfl, by (intro W _; go_simp)⟩) ?_
              simp only [Act.put, List.setIfInBounds_toArray, List.set_cons_succ, List.set_cons_zero]
              refine wpAnyY_done (by kernel_rfl) ?_ _
              clear hs0 HLk HCk HX3
              cases V with
              | false =>
                have HT0 : Hid (twinB vs x.states s k = none) := by show _ = _; rw [HTc.out]; simp
                clear HTc
                have HN : Hid (m = (twL vs x.states s (k + 1)).length ∧ w4.ownsRow w.heap.size 81 2 (.slice ao m cap) m (pcRow (twL vs x.states s (k + 1))) ∧ Below w.heap.size w w4) := HNo.out HT0.out _ HX4.out
                clear HNo HT0 HQ
                go_wp2
                go_roundg (gk - 1)
                case measure => omega
                case rel => exact ⟨k + 1, m, ao, cap, by omega, by go_num, rfl, HN.out⟩
              | true =>
                have HT1 : Hid (twinB vs x.states s k = some g) := by show _ = _; rw [HTc.out]; simp
                have b0 : w4.cell? ⟨gb, 0, none⟩ = some (.int .i64 g.1) := by
                  refine blk (cs := #[.int .i64 g.1, .int .i64 g.2]) (ty := 81) ?_ rfl
                  rw [HX4.out.block _ (lt_block HB2.out.2.2)]; exact HB2.out.2.2
                have b1 : w4.cell? ⟨gb, 1, none⟩ = some (.int .i64 g.2) := by
                  refine blk (cs := #[.int .i64 g.1, .int .i64 g.2]) (ty := 81) ?_ rfl
                  rw [HX4.out.block _ (lt_block HB2.out.2.2)]; exact HB2.out.2.2
                have HX : Hid ((w4.alloc (.cells #[.int .i64 g.1, .int .i64 g.2] 81)).ownsRow w.heap.size 81 2 (.slice ao m cap) m (pcRow (twL vs x.states s k)) ∧ SrcAt (w4.alloc (.cells #[.int .i64 g.1, .int .i64 g.2] 81)) (some ⟨w4.heap.size, 0, none⟩) 1 2 (pcCells g) ∧ Below w.heap.size w (w4.alloc (.cells #[.int .i64 g.1, .int .i64 g.2] 81))) := by
                  have hb : Below w4.heap.size w4 (w4.alloc (.cells #[.int .i64 g.1, .int .i64 g.2] 81)) := (Below.refl _ _).alloc (Nat.le_refl _) _
                  have hb2 := HB2.out.1.trans ((HX4.out.trans (hb.mono HX4.out.size)).mono HB2.out.1.size)
                  exact ⟨owned_below HQ.out.2.1 hb2, gp_new w4 g, HQ.out.2.2.trans (hb2.mono HQ.out.2.2.size)⟩
                clear HTc HNo HS1
                go_wp2_with (at_builtin; refine wpList_append_opt rfl _ _ 85 rfl w.heap.size 81 i81 _ 2 16 Try.underlying85 hi81 hz810 hz811 hz812 rfl (by decide) (.slice ao m cap) m (pcRow (twL vs x.states s k)) rfl HX.out.1 (some ⟨w4.heap.size, 0, none⟩) 1 1 (pcCells g) rfl HX.out.2.1 (by unfold maxLen; omega) (by omega) HX.out.2.2.size ?_)
                intro v' w6 ho6 hg6
                obtain ⟨ao6, cap6, rfl⟩ := owned_shape ho6
                have HN : Hid (m + 1 = (twL vs x.states s (k + 1)).length ∧ w6.ownsRow w.heap.size 81 2 (.slice ao6 (m + 1) cap6) (m + 1) (pcRow (twL vs x.states s (k + 1))) ∧ Below w.heap.size w w6) := by
                  rw [twL_some HT1.out]
                  refine ⟨by rw [List.length_append, ← HQ.out.1]; rfl, ?_, HX.out.2.2.grown hg6 HX.out.2.2.size (fun k hk => (HX.out.1.lt k hk).1)⟩
                  rw [show pcRow (twL vs x.states s k ++ [g]) = pcRow (twL vs x.states s k) ++ pcCells g by simp [pcRow]]
                  exact ho6
                clear ho6 hg6 HX b0 b1 HQ HT1
                go_wp2
                go_roundg (gk - 1)
                case measure => omega
                case rel => exact ⟨k + 1, m + 1, ao6, cap6, by omega, by go_num, rfl, HN.out⟩
          · have hke : (kt == ks) = false := by simpa using hkk
            have HT0 : Hid (twinB vs x.states s k = none) := by show _ = _; rw [HTB.out]; simp [hkk]
            clear HTB hkk hks
            obtain ⟨q0, q1, q2⟩ := HS1.out w2 (Below.refl _ _)
            go_quiet (fail)
            clear hs0
            have HN : Hid (m = (twL vs x.states s (k + 1)).length ∧ (w2.drewN nq).ownsRow w.heap.size 81 2 (.slice ao m cap) m (pcRow (twL vs x.states s (k + 1))) ∧ Below w.heap.size w (w2.drewN nq)) := HNo.out HT0.out _ (below_dn (Below.refl _ _) nq)
            clear HNo HT0 HQ
            go_wp2
            go_roundg (gk - 1)
            case measure => omega
            case rel => exact ⟨k + 1, m, ao, cap, by omega, by go_num, rfl, HN.out⟩
    · have hz0 : decide ((k : Int) < (n : Int)) = false := by simp; omega
      have HE : Hid (m = (twL vs x.states s n).length ∧ wr.ownsRow w.heap.size 81 2 (.slice ao m cap) m (pcRow (twL vs x.states s n)) ∧ Below w.heap.size w wr) := by
        have h1 := HQ.out
        rw [show k = n by omega] at h1
        exact h1
      clear HQ
      go_wp2
      go_ret
      refine ⟨ao, cap, ?_, ?_, HE.out.2.2⟩
      · rw [← HE.out.1]; rfl
      · rw [← HE.out.1]; exact HE.out.2.1
end Go.Proofs.Ytolehoibpnenlaa
