/-
  The walks of cut and expect.
-/
import Derived.Test.YtignpgoicoojiaaDoorRdF
import Derived.Laws.CopyOwn
namespace Go.Proofs.YtignpgoicoojiaaDoor
open Go.RowKit

theorem size5 : (Tryd.prog.info? 5).map (·.size) = some 1 := by kernel_rfl
theorem bytes_oneC (l : List UInt8) : ∀ v ∈ byteVals l, v.oneCell' = true := by
  intro v hv; simp [byteVals] at hv; obtain ⟨a, _, rfl⟩ := hv; rfl
theorem run_copy_cut (w : World) (ty : TypeId) (g n : Nat) (t : ByteArray) (cur : Array Value) (hg : w.heap[g]? = some (.cells cur 5 (0, 0))) (hc : cur.size = n) (hle : n ≤ t.size) :
    (Builtin.copy_ #[42, 9] ty #[.slice (some ⟨g, 0, none⟩) n n, .string t]).run Tryd.prog w = .ok (goInt n) (w.setRow g (byteVals (t.data.toList.take n)).toArray) := by
  have hlen : (byteVals (t.data.toList.take n)).length = n := by rw [byteVals_length, List.length_take, size_toList]; omega
  have hst := run_storeCells_at Tryd.prog g 0 5 (byteVals (t.data.toList.take n)) 0 cur w hg (by rw [hlen]; omega) (bytes_oneC _)
  have hmin : Nat.min t.size n = n := Nat.min_eq_right hle
  have htk : List.take n (List.map (fun b : UInt8 => Value.int IntKind.u8 (b.toNat : Int)) t.data.toList) = byteVals (t.data.toList.take n) := by
    rw [byteVals, List.map_take]
  rw [hlen] at hst
  simp only [Nat.add_zero] at hst
  cases hq : Tryd.prog.info? 5 with
  | none => have := size5; simp [hq] at this
  | some i =>
    simp [Builtin.copy_, run_underlying Tryd.underlying42, Builtin.lenOf, Builtin.firstCells, sizeOf, typeInfo, hq, hmin]
    rw [htk, hst]
    have hdr : cur.toList.drop n = [] := List.drop_eq_nil_of_le (by simp [hc])
    simp [Result.andThen, hdr]
theorem step_copy_cut {ops : Array Oper} {o : Oper} {a : Act} {w : World} {K : Act → World → Prop} {Q : Exit → Act → World → Prop} {E : Prop} (dd : Nat) (hdd : o.dst = some dd)
    (hg : o.guard = none) (d x : Operand) (hop : o.op = Op.call { callee := Callee.builtin Builtin.copy, args := #[d, x], argTypes := #[42, 9] })
    (g n : Nat) (hd : a.eval d = .slice (some ⟨g, 0, none⟩) n n) (t : ByteArray) (hx : a.eval x = .string t) (cur : Array Value) (hgg : w.heap[g]? = some (.cells cur 5 (0, 0))) (hc : cur.size = n) (hle : n ≤ t.size)
    (hK : K (a.put (some dd) (.int .i64 (n : Int))) (w.setRow g (byteVals (t.data.toList.take n)).toArray)) :
    if Region.wanted o (yielded ops a.tmps) = true then Oper.wp Tryd.prog o a w K Q else E := by
  have hw : Region.wanted o (yielded ops a.tmps) = true := by simp [Region.wanted, hg]
  rw [if_pos hw]
  have hrun := run_copy_cut w o.type g n t cur hgg hc hle
  rw [← hdd] at hK
  unfold Oper.wp
  simp [execOp, hop, resolve, invoke, builtin, hd, hx, hrun, Result.andThen]
  exact hK
theorem grown_row (w : World) (g : Nat) (cs : Array Value) : w.grownBy (w.setRow g cs) (some g) := by
  refine ⟨rfl, rfl, rfl, by simp [World.setRow], fun k _ hk => ?_⟩
  have hne : g ≠ k := fun e => hk (by rw [e])
  simp [World.setRow, Array.getElem?_modify, hne]
theorem extract_list (s : ByteArray) (i : Nat) : (s.extract i s.size).data.toList = s.data.toList.drop i := by
  have : (List.drop i s.data.toList).length ≤ s.size - i := by simp
  simp [ByteArray.data_extract, Array.toList_extract, List.extract, List.take_of_length_le this]

set_option maxHeartbeats 4000000 in
theorem cutGood_calls (b : Nat) (s : ByteArray) (at0 n : Nat) (w : World) (h : Rd w b s (at0, false)) (hn : n ≤ 1000) (hb : at0 + n ≤ s.size) :
    Calls Tryd.prog 53 #[.pointer (some ⟨b, 0, none⟩), .int .i64 (n : Int)] w fun e w' => ∃ g, e = .returned (.slice (some ⟨g, 0, none⟩) n n) ∧ w'.ownsRow w.heap.size 5 1 (.slice (some ⟨g, 0, none⟩) n n) n (byteVals ((s.data.toList.drop at0).take n)) ∧ Rd w' b s (at0 + n, false) ∧ w.grownBy w' (some b) := by
  have HR : Hid (Rd w b s (at0, false)) := h
  have hs := h.short
  unfold maxLen at hs
  clear h
  obtain ⟨i0, hi, hz0, hz1, hz2⟩ := info_parts info5
  go_enter Tryd.func53, Tryd.ntmps53
  go_wp2_with (at_make; refine wpList_make_full _ rfl _ _ 42 rfl w.heap.size 5 i0 (.int .u8 0) 1 Tryd.underlying42 hi hz0 hz1 .i64 .i64 _ _ n rfl rfl rfl rfl (by rw [hz2]; omega) (by unfold maxLen; omega) (Nat.le_refl _) ?_)
  intro w3 hown3 hgrow3
  have HRow : Hid (∃ cur : Array Value, w3.heap[w.heap.size]? = some (.cells cur 5 (0, 0)) ∧ cur.size = n) := by
    rcases hown3.2 with ⟨hv, _⟩ | ⟨g', cap', cur, hv, hb', hg', h1, h2, h3, h4⟩
    · cases hv
    · cases hv
      exact ⟨cur, hg', by omega⟩
  have H3 : Hid (Rd w3 b s (at0, false) ∧ w.grownBy w3 (some b)) := ⟨HR.out.other hgrow3 (by simp), grown_also (grown_refl _ _) hgrow3⟩
  have hbl : b < w.heap.size := lt_block HR.out.box
  clear hown3 hgrow3 HR
  have c0 := H3.out.1.c0
  have c1 := H3.out.1.c1
  have c2 := H3.out.1.c2
  simp only at c1 c2
  have hd : decide ((s.size : Int) - (at0 : Int) < (n : Int)) = false := by simp; omega
  go_wp2_with fail
  go_quiet (fail)
  obtain ⟨wd, hwd⟩ : ∃ wd, w3.drewN nq = wd := ⟨_, rfl⟩
  have HWd : Hid (w3.drewN nq = wd) := hwd
  have HD : Hid (Rd wd.drew b s (at0, false) ∧ w.grownBy wd.drew (some b) ∧ ∃ cur : Array Value, wd.drew.heap[w.heap.size]? = some (.cells cur 5 (0, 0)) ∧ cur.size = n) := by
    rw [← hwd]
    refine ⟨(H3.out.1.drewN nq).drew, grown_trans (grown_trans H3.out.2 (grown_drewN nq)) grown_drew, ?_⟩
    obtain ⟨cur, k1, k2⟩ := HRow.out
    exact ⟨cur, by have := (grown_drewN (w := w3) (r := none) nq).block _ (lt_block k1) (by simp); exact this.trans k1, k2⟩
  clear hwd H3 HRow c0 c1 c2 hd
  rw [HWd.out]
  go_upto_region 5 with (fail)
  obtain ⟨g, hg⟩ : ∃ g, w.heap.size = g := ⟨_, rfl⟩
  have HG : Hid (w.heap.size = g) := hg
  rw [hg] at HD hbl
  clear hg
  rw [HG.out]
  obtain ⟨cur, hcur, hcs⟩ := HD.out.2.2
  have HCS : wd.drew.cell? ⟨b, 0, none⟩ = some (.string s) ∧ wd.drew.cell? ⟨b, 1, none⟩ = some (.int .i64 (at0 : Int)) := ⟨HD.out.1.c0, HD.out.1.c1⟩
  have hsl : ∀ W, (Instr.slice 9 (.string s) (some (.int .i64 (at0 : Int))) none none).run Tryd.prog W = .ok (.string (s.extract at0 s.size)) W := fun W => by
    rw [run_slice_string_from_if W 9 s .i64 _ Tryd.underlying9, if_pos (by omega)]
    simp
  have hxs : n ≤ (s.extract at0 s.size).size := by rw [← size_toList, extract_list, List.length_drop, size_toList]; omega
  have HX : Hid ((s.extract at0 s.size).data.toList = s.data.toList.drop at0) := extract_list s at0
  generalize s.extract at0 s.size = tx at hsl hxs HX
  refine wp_region_Y (fun j => [18].contains j) (fun W : World => W.cell? ⟨b, 0, none⟩ = some (.string s) ∧ W.cell? ⟨b, 1, none⟩ = some (.int .i64 (at0 : Int))) (by kernel_rfl) ?_
  refine wpAnyY_pure (i := 0) 30 (v := .pointer (some ⟨b, 0, none⟩)) rfl rfl (by kernel_rfl) (by kernel_rfl) (by kernel_rfl) (fun _ _ _ h => h) (Or.inl ⟨by rfl, by (intro W _; go_simp)⟩) ?_
  simp only [Act.put, List.setIfInBounds_toArray, List.set_cons_succ, List.set_cons_zero]
  refine wpAnyY_pure (i := 1) 31 (v := .pointer (some ⟨b, 0, none⟩)) rfl rfl (by kernel_rfl) (by kernel_rfl) (by kernel_rfl) (fun _ _ _ h => h) (Or.inl ⟨by rfl, by (intro W _; go_simp)⟩) ?_
  simp only [Act.put, List.setIfInBounds_toArray, List.set_cons_succ, List.set_cons_zero]
  refine wpAnyY_pure (i := 2) 32 (v := .pointer (some ⟨b, 1, none⟩)) rfl rfl (by kernel_rfl) (by kernel_rfl) (by kernel_rfl) (fun _ _ _ h => h) (Or.inl ⟨by rfl, by (intro W _; go_simp)⟩) ?_
  simp only [Act.put, List.setIfInBounds_toArray, List.set_cons_succ, List.set_cons_zero]
  refine wpAnyY_pure (i := 4) 34 (v := .slice (some ⟨g, 0, none⟩) n n) rfl rfl (by kernel_rfl) (by kernel_rfl) (by kernel_rfl) (fun _ _ _ h => h) (Or.inl ⟨by rfl, by (intro W _; go_simp)⟩) ?_
  simp only [Act.put, List.setIfInBounds_toArray, List.set_cons_succ, List.set_cons_zero]
  refine wpAnyY_pure (i := 5) 35 (v := .pointer (some ⟨b, 0, none⟩)) rfl rfl (by kernel_rfl) (by kernel_rfl) (by kernel_rfl) (fun _ _ _ h => h) (Or.inl ⟨by rfl, by (intro W _; go_simp)⟩) ?_
  simp only [Act.put, List.setIfInBounds_toArray, List.set_cons_succ, List.set_cons_zero]
  refine wpAnyY_pure (i := 6) 36 (v := .pointer (some ⟨b, 0, none⟩)) rfl rfl (by kernel_rfl) (by kernel_rfl) (by kernel_rfl) (fun _ _ _ h => h) (Or.inl ⟨by rfl, by (intro W _; go_simp)⟩) ?_
  simp only [Act.put, List.setIfInBounds_toArray, List.set_cons_succ, List.set_cons_zero]
  refine wpAnyY_pure (i := 7) 37 (v := .pointer (some ⟨b, 0, none⟩)) rfl rfl (by kernel_rfl) (by kernel_rfl) (by kernel_rfl) (fun _ _ _ h => h) (Or.inl ⟨by rfl, by (intro W _; go_simp)⟩) ?_
  simp only [Act.put, List.setIfInBounds_toArray, List.set_cons_succ, List.set_cons_zero]
  refine wpAnyY_pure (i := 9) 39 (v := .pointer (some ⟨b, 0, none⟩)) rfl rfl (by kernel_rfl) (by kernel_rfl) (by kernel_rfl) (fun _ _ _ h => h) (Or.inl ⟨by rfl, by (intro W _; go_simp)⟩) ?_
  simp only [Act.put, List.setIfInBounds_toArray, List.set_cons_succ, List.set_cons_zero]
  refine wpAnyY_pure (i := 10) 40 (v := .pointer (some ⟨b, 0, none⟩)) rfl rfl (by kernel_rfl) (by kernel_rfl) (by kernel_rfl) (fun _ _ _ h => h) (Or.inl ⟨by rfl, by (intro W _; go_simp)⟩) ?_
  simp only [Act.put, List.setIfInBounds_toArray, List.set_cons_succ, List.set_cons_zero]
  refine wpAnyY_pure (i := 11) 41 (v := .pointer (some ⟨b, 1, none⟩)) rfl rfl (by kernel_rfl) (by kernel_rfl) (by kernel_rfl) (fun _ _ _ h => h) (Or.inl ⟨by rfl, by (intro W _; go_simp)⟩) ?_
  simp only [Act.put, List.setIfInBounds_toArray, List.set_cons_succ, List.set_cons_zero]
  refine wpAnyY_takeD (i := 3) 33 (v := .int .i64 (at0 : Int)) rfl rfl (by kernel_rfl) (by kernel_rfl) (late_of (by kernel_rfl)) (by kernel_rfl) (by kernel_rfl) (fun _ _ _ h => h) HCS (Or.inl ⟨by rfl, by (intro W hW; obtain ⟨k0, k1⟩ := hW; go_simp)⟩) ?_
  simp only [Act.put, List.setIfInBounds_toArray, List.set_cons_succ, List.set_cons_zero]
  refine wpAnyY_takeD (i := 8) 38 (v := .string s) rfl rfl (by kernel_rfl) (by kernel_rfl) (late_of (by kernel_rfl)) (by kernel_rfl) (by kernel_rfl) (fun _ _ _ h => h) HCS (Or.inl ⟨by rfl, by (intro W hW; obtain ⟨k0, k1⟩ := hW; go_simp)⟩) ?_
  simp only [Act.put, List.setIfInBounds_toArray, List.set_cons_succ, List.set_cons_zero]
  refine wpAnyY_takeD (i := 12) 42 (v := .int .i64 (at0 : Int)) rfl rfl (by kernel_rfl) (by kernel_rfl) (late_of (by kernel_rfl)) (by kernel_rfl) (by kernel_rfl) (fun _ _ _ h => h) HCS (Or.inl ⟨by rfl, by (intro W hW; obtain ⟨k0, k1⟩ := hW; go_simp)⟩) ?_
  simp only [Act.put, List.setIfInBounds_toArray, List.set_cons_succ, List.set_cons_zero]
  refine wpAnyY_pure (i := 13) 43 (v := .string tx) rfl rfl (by kernel_rfl) (by kernel_rfl) (by kernel_rfl) (fun _ _ _ h => h) (Or.inl ⟨by rfl, by (intro W _; go_simp)⟩) ?_
  simp only [Act.put, List.setIfInBounds_toArray, List.set_cons_succ, List.set_cons_zero]
  refine wpAnyY_one (i := 14) rfl (by kernel_rfl) (fun Kc hKc => ?_)
  refine step_copy_cut 44 rfl rfl _ _ rfl g n rfl tx rfl cur hcur hcs hxs ?_
  have hne : b ≠ g := by omega
  have hr5 : Rd (wd.drew.setRow g (byteVals (tx.data.toList.take n)).toArray) b s (at0, false) := HD.out.1.other (grown_row _ _ _) (fun e => by cases e; exact hne rfl)
  refine hKc.out _ _ (fun _ _ => ⟨hr5.c0, hr5.c1⟩) ?_
  clear hKc Kc
  have HR5 : Hid (Rd (wd.drew.setRow g (byteVals (tx.data.toList.take n)).toArray) b s (at0, false) ∧ w.grownBy (wd.drew.setRow g (byteVals (tx.data.toList.take n)).toArray) (some b) ∧ (wd.drew.setRow g (byteVals (tx.data.toList.take n)).toArray).heap[g]? = some (.cells (byteVals (tx.data.toList.take n)).toArray 5 (0, 0))) := by
    refine ⟨hr5, ?_, setRow_heap _ g cur _ 5 (0, 0) hcur⟩
    have h2 := grown_row wd.drew g (byteVals (tx.data.toList.take n)).toArray
    have h1 := HD.out.2.1
    exact ⟨h2.os.trans h1.os, h2.tape.trans h1.tape, h2.output.trans h1.output, Nat.le_trans h1.size h2.size, fun k hk hr => (h2.block k (Nat.lt_of_lt_of_le hk h1.size) (by intro e; cases e; have := HG.out; omega)).trans (h1.block k hk hr)⟩
  clear hr5 hne hcur hcs HD
  obtain ⟨w5, hw5⟩ : ∃ w5, wd.drew.setRow g (byteVals (tx.data.toList.take n)).toArray = w5 := ⟨_, rfl⟩
  rw [hw5] at HR5 ⊢
  clear hw5
  have k1 := HR5.out.1.c1
  have kf := HR5.out.1.fz 1
  simp only at k1
  simp only [Act.put, List.setIfInBounds_toArray, List.set_cons_succ, List.set_cons_zero]
  refine wpAnyY_one (i := 15) rfl (by kernel_rfl) (fun Kc hKc => ?_)
  go_simp
  refine hKc.out _ _ (fun _ h => h) ?_
  clear hKc Kc
  refine wpAnyY_one (i := 16) rfl (by kernel_rfl) (fun Kc hKc => ?_)
  go_simp
  refine hKc.out _ _ (fun _ h => h) ?_
  clear hKc Kc
  refine wpAnyY_one (i := 17) rfl (by kernel_rfl) (fun Kc hKc => ?_)
  go_simp
  refine hKc.out _ _ (fun _ h => h) ?_
  clear hKc Kc
  refine wpAnyY_one (i := 18) rfl (by kernel_rfl) (fun Kc hKc => ?_)
  go_simp
  refine hKc.out _ _ (fun h => absurd h (by decide)) ?_
  clear hKc Kc
  refine wpAnyY_done (by kernel_rfl) ?_ _
  have HF : Hid ((w5.setCell ⟨b, 1, none⟩ (.int .i64 (IntKind.i64.wrap ((at0 : Int) + (n : Int))))).ownsRow w.heap.size 5 1 (.slice (some ⟨g, 0, none⟩) n n) n (byteVals ((s.data.toList.drop at0).take n)) ∧ Rd (w5.setCell ⟨b, 1, none⟩ (.int .i64 (IntKind.i64.wrap ((at0 : Int) + (n : Int))))) b s (at0 + n, false) ∧ w.grownBy (w5.setCell ⟨b, 1, none⟩ (.int .i64 (IntKind.i64.wrap ((at0 : Int) + (n : Int))))) (some b)) := by
    obtain ⟨p1, p2, p3⟩ := HR5.out
    refine ⟨?_, p1.put (by rw [IntKind.wrap_i64]; omega) hb, grown_trans p2 (grown_set _ _ _ _)⟩
    rw [← HX.out]
    have hl : (byteVals (tx.data.toList.take n)).length = n := by rw [byteVals_length, List.length_take, size_toList]; omega
    have ho : w5.ownsRow w.heap.size 5 1 (.slice (some ⟨g, 0, none⟩) n n) n (byteVals (tx.data.toList.take n)) :=
      ⟨by omega, .inr ⟨g, n, _, rfl, by rw [HG.out]; exact Nat.le_refl _, p3, Nat.le_refl _, by unfold maxLen; omega, by simp only [List.size_toArray]; omega, by simp only []; exact List.take_of_length_le (by omega)⟩⟩
    exact own_rd ho (by decide) p1 (grown_set _ _ _ _)
  clear HR5
  go_wp2
  go_ret
  exact ⟨g, rfl, HF.out.1, HF.out.2.1, HF.out.2.2⟩

set_option maxHeartbeats 1000000 in
theorem expect_calls (b : Nat) (s u : ByteArray) (st : Sr) (w : World) (h : Rd w b s st) (hn : u.size ≤ 1000) : ExpC w b s st u := by
  by_cases hb : st.2 = true ∨ s.size - st.1 < u.size
  · exact expectBad b s u st w h hn hb
  obtain ⟨at0, wrg⟩ := st
  have hle := h.le
  simp only [not_or, Bool.not_eq_true] at hb hle
  obtain ⟨rfl, hb2⟩ := hb
  have hsz : at0 + u.size ≤ s.size := by omega
  unfold ExpC
  have HE : Hid (expR s.data.toList u.data.toList (at0, false) = (at0 + u.size, decide ((s.data.toList.drop at0).take u.size ≠ u.data.toList))) := by
    show _ = _
    rw [expR, if_neg (by simp; omega)]
    simp
  have HC : Hid (Calls Tryd.prog 53 #[.pointer (some ⟨b, 0, none⟩), .int .i64 (u.size : Int)] w fun e w' => ∃ g, e = .returned (.slice (some ⟨g, 0, none⟩) u.size u.size) ∧ w'.ownsRow w.heap.size 5 1 (.slice (some ⟨g, 0, none⟩) u.size u.size) u.size (byteVals ((s.data.toList.drop at0).take u.size)) ∧ Rd w' b s (at0 + u.size, false) ∧ w.grownBy w' (some b)) := cutGood_calls b s at0 u.size w h hn hsz
  clear hb2 h hsz
  go_enter Tryd.func43, Tryd.ntmps43
  go_wp2_with fail
  refine HC.out.mono ?_
  rintro e w1 ⟨g, rfl, hown, hr1, hg1⟩
  have hconv := owned_text hown
  have HR1 : Hid (Rd w1 b s (at0 + u.size, false) ∧ w.grownBy w1 (some b)) := ⟨hr1, hg1⟩
  have HB : Hid (Rd (w1.setCell ⟨b, 2, none⟩ (.bool true)) b s (at0 + u.size, true) ∧ w.grownBy (w1.setCell ⟨b, 2, none⟩ (.bool true)) (some b)) := ⟨hr1.bad, grown_trans hg1 (grown_set _ _ _ _)⟩
  have c2 := hr1.c2
  have fz := hr1.fz 2
  simp only at c2
  clear hown hr1 hg1 HC
  obtain ⟨z, hz⟩ : ∃ z : ByteArray, (⟨((s.data.toList.drop at0).take u.size).toArray⟩ : ByteArray) = z := ⟨_, rfl⟩
  rw [hz] at hconv
  have hzl : z.data.toList = (s.data.toList.drop at0).take u.size := by rw [← hz]
  by_cases hzu : z = u
  · have HF : Hid (decide ((s.data.toList.drop at0).take u.size ≠ u.data.toList) = false) := by show _ = _; rw [← hzl, hzu]; simp
    have hne : (z.toList == u.toList) = true := by rw [hzu]; simp
    clear hz hzl hzu
    go_wp2
    go_end0
    rw [HE.out, HF.out]
    exact ⟨rfl, HR1.out.1, HR1.out.2⟩
  · have HF : Hid (decide ((s.data.toList.drop at0).take u.size ≠ u.data.toList) = true) := by
      show _ = _
      rw [← hzl, decide_eq_true_iff]
      intro e
      exact hzu (byte_ext e)
    have hne : (z.toList == u.toList) = false := by
      rw [beq_eq_false_iff_ne]
      intro e
      exact hzu (byte_ext (by simpa [ByteArray.toList_eq] using e))
    clear hz hzl hzu
    go_wp2
    go_end0
    rw [HE.out, HF.out]
    exact ⟨rfl, HB.out.1, HB.out.2⟩

end Go.Proofs.YtignpgoicoojiaaDoor
