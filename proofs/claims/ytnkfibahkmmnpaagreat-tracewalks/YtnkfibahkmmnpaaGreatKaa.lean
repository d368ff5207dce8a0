/-
  The walk of allKept; the look as it is made. The walk of Check.
-/
import Derived.Deep.Cut
import Derived.Test.YtnkfibahkmmnpaaGreatKi
namespace Go.Proofs.YtnkfibahkmmnpaaGreat
open Go.RowKit

set_option maxRecDepth 10000 in
set_option maxHeartbeats 1000000 in
theorem allKept_calls {w0 w : World} {b : Nat} {c : Cd} {s : Ls} {S : St} {wv : Nat → Value} (h : Lk w0 w b c s S wv) (n : Nat) (hp : c.planes = n) (hn : n ≤ 10) :
    Calls Tryz.prog 52 #[.pointer (some ⟨b, 0, none⟩)] w fun e w' => e = .returned (.bool (allK S n)) ∧ Below w.heap.size w w' := by
  have c1 := h.code 1 (by omega) (v := .int .i64 c.planes) rfl
  rw [hp] at c1
  have HL : Hid (Lk w0 w b c s S wv) := h
  have hn' : (n : Int) ≤ 10 := by omega
  clear h hp
  go_enter Tryz.func52, Tryz.ntmps52
  go_wp2_with fail
  go_quiet (fail)
  go_wp2
  go_loopw [4, 15] (fun _ i wr => ∃ k : Nat, k ≤ n ∧ i = .int .i64 k ∧ (∀ j, j < k → (S.pl j).1 = true) ∧ Below w.heap.size w wr) (fun _ i _ => n - (intOf i).toNat)
  case atStart => exact ⟨0, Nat.zero_le _, rfl, fun j hj => by omega, below_drewN (Below.refl _ _) nq⟩
  case round =>
    obtain ⟨k, hk, rfl, hall, hbx⟩ := hrel
    have HA : Hid (∀ j, j < k → (S.pl j).1 = true) := hall
    have HX : Hid (Below w.heap.size w wr) := hbx
    clear hall hbx c1
    by_cases hlt : k < n
    · have p0 := (HL.out.next HX.out).pl0 k (by omega)
      have p1 := (HL.out.next HX.out).pl1 k (by omega)
      obtain ⟨v, hv⟩ : ∃ v, (S.pl k).1 = v := ⟨_, rfl⟩
      have HV : Hid ((S.pl k).1 = v) := hv
      rw [hv] at p0
      clear hv
      cases v
      · go_wp2
        go_ret
        refine ⟨ret_bool ?_, HX.out.alloc HX.out.size _⟩
        cases e : allK S n with
        | false => rfl
        | true =>
          have := List.all_eq_true.1 e k (List.mem_range.2 hlt)
          rw [HV.out] at this; cases this
      · go_wp2
        go_roundw
        case rel =>
          refine ⟨k + 1, by omega, by go_num, fun j hj => ?_, HX.out.alloc HX.out.size _⟩
          by_cases e : j = k
          · subst e; exact HV.out
          · exact HA.out j (by omega)
        case measure => simp [intOf]; omega
    · have HE : Hid (allK S n = true) := List.all_eq_true.2 fun j hj => HA.out j (by have := List.mem_range.1 hj; omega)
      go_wp2
      go_ret
      exact ⟨ret_bool HE.out.symm, HX.out⟩

def zLk : Array Value := lkCells ⟨0, 0, 0, 0, 0, 0, [], [], [], []⟩ ⟨⟨none, 0, 0⟩, ⟨none, 0, 0⟩, ⟨none, 0, 0⟩, ⟨none, 0, 0⟩⟩ (st0 0) fun _ => .slice none 0 0
theorem zero54 : (∀ w, (zeroValue 128).run Tryz.prog w = .ok (.agg zLk) w) ∧ (Tryz.prog.info? 128).map (·.size) = some 143 := zero_of_info (by kernel_rfl)
theorem zLk_size : zLk.size = 143 := lk_size _ _ _ _
theorem zLk_set (c : Cd) (s : Ls) : ((((((((((zLk.setIfInBounds 0 (.int .i64 c.letters)).setIfInBounds 1 (.int .i64 c.planes)).setIfInBounds 2 (.int .i64 c.regs)).setIfInBounds 3 (.int .i64 c.lo)).setIfInBounds 4 (.int .i64 c.hi)).setIfInBounds 5 (.int .i64 c.most)).setIfInBounds 6 (.slice s.t.a s.t.n s.t.c)).setIfInBounds 7 (.slice s.k.a s.k.n s.k.c)).setIfInBounds 8 (.slice s.i.a s.i.n s.i.c)).setIfInBounds 9 (.slice s.r.a s.r.n s.r.c)) = lkCells c s (st0 0) fun _ => .slice none 0 0 := by
  apply Array.ext_getElem?
  intro j
  by_cases hj : j < 143
  · rw [lk_get c s _ _ hj]
    simp only [Array.getElem?_setIfInBounds, Array.size_setIfInBounds, zLk_size]
    by_cases h10 : j < 10
    · have : j = 0 ∨ j = 1 ∨ j = 2 ∨ j = 3 ∨ j = 4 ∨ j = 5 ∨ j = 6 ∨ j = 7 ∨ j = 8 ∨ j = 9 := by omega
      rcases this with rfl | rfl | rfl | rfl | rfl | rfl | rfl | rfl | rfl | rfl <;> rfl
    · rw [if_neg (by omega), if_neg (by omega), if_neg (by omega), if_neg (by omega), if_neg (by omega), if_neg (by omega), if_neg (by omega), if_neg (by omega), if_neg (by omega), if_neg (by omega)]
      rw [zLk, lk_get _ _ _ _ hj]
      unfold lkF
      rw [if_neg h10, if_neg h10]
  · rw [Array.getElem?_eq_none (by simp [zLk_size]; omega), Array.getElem?_eq_none (by rw [lk_size]; omega)]
theorem lk_one (c : Cd) (s : Ls) : (lkCells c s (st0 0) fun _ => .slice none 0 0).all (·.oneCell') = true := by
  refine Array.all_eq_true.2 fun j hj => ?_
  rw [lk_size] at hj
  have e := lk_get c s (st0 0) (fun _ => .slice none 0 0) hj
  rw [Array.getElem?_eq_getElem (by rw [lk_size]; exact hj)] at e
  rw [Option.some.inj e]
  unfold lkF
  split
  · rename_i h10
    have : j = 0 ∨ j = 1 ∨ j = 2 ∨ j = 3 ∨ j = 4 ∨ j = 5 ∨ j = 6 ∨ j = 7 ∨ j = 8 ∨ j = 9 := by omega
    rcases this with rfl | rfl | rfl | rfl | rfl | rfl | rfl | rfl | rfl | rfl <;> rfl
  split
  · unfold rgCell
    split
    · rfl
    split
    · rfl
    split
    · rfl
    split
    · rfl
    split
    · rfl
    split
    · rfl
    · rfl
  split
  · split <;> rfl
  · rfl
theorem Lk.start {w0 w1 : World} {c : Cd} {s : Ls} (h : CdAt w0 c s) (hb : Below w0.heap.size w0 w1) : Lk w0 (w1.alloc (.cells (lkCells c s (st0 0) fun _ => .slice none 0 0) 128)) w1.heap.size c s (st0 0) fun _ => .slice none 0 0 :=
  ⟨heap_alloc_new _ _, h, hb.alloc hb.size _, hb.size, fun _ _ => own_nil _ _ _, fun _ _ _ _ _ => .inl rfl⟩
theorem chk0 {c : Cd} (h : rightB c = false) : chkB c = (-1, 160) := by rw [chkB, if_pos h]
theorem chk1 {c : Cd} (h : rightB c = true) (h1 : arsB c = false) : chkB c = (-1, 161) := by rw [chkB, if_neg (by rw [h]; decide), if_pos h1]
theorem chk2 {c : Cd} (h : rightB c = true) (h1 : arsB c = true) (h2 : (goP c (st0 0) 0 c.cell).1.2 ≠ 0) : chkB c = (goP c (st0 0) 0 c.cell).1 := by
  rw [chkB, if_neg (by rw [h]; decide), if_neg (by rw [h1]; decide), if_pos h2]
theorem chk3 {c : Cd} (h : rightB c = true) (h1 : arsB c = true) (h2 : (goP c (st0 0) 0 c.cell).1.2 = 0) (h3 : allK (goP c (st0 0) 0 c.cell).2 c.planes.toNat = false) : chkB c = (-1, 164) := by
  rw [chkB, if_neg (by rw [h]; decide), if_neg (by rw [h1]; decide), if_neg (by rw [h2]; decide), if_pos h3]
theorem chk4 {c : Cd} (h : rightB c = true) (h1 : arsB c = true) (h2 : (goP c (st0 0) 0 c.cell).1.2 = 0) (h3 : allK (goP c (st0 0) 0 c.cell).2 c.planes.toNat = true) (r : Bool) (h4 : widB c (goP c (st0 0) 0 c.cell).2.top = r) : chkB c = (-1, if r then 165 else 0) := by
  rw [chkB, if_neg (by rw [h]; decide), if_neg (by rw [h1]; decide), if_neg (by rw [h2]; decide), if_neg (by rw [h3]; decide), h4]
  cases r <;> rfl
theorem tup2 {a b : Int} {p : Int × Int} (h : p = (a, b)) : Ending.returned (.tuple #[.int .i64 a, .int .i64 b]) = .returned (.tuple #[.int .i64 p.1, .int .i64 p.2]) := by rw [h]
end Go.Proofs.YtnkfibahkmmnpaaGreat
namespace Go.Proofs.YtnkfibahkmmnpaaGreat
open Go.RowKit

theorem wpList_store_new {P : Program} {ops : Array Oper} {rest : List Oper} {op : Oper} {a : Act} {w : World} {Q : Exit → Act → World → Prop} (hgd : op.guard = none) (ty : TypeId) (x y : Operand) (ho : op.op = .store ty x y)
    (c c' : Array Value) (hx : a.eval x = .pointer (some ⟨w.heap.size, 0, none⟩)) (hy : a.eval y = .agg c') (hi : (P.info? ty).map (·.size) = some c'.size) (hs : c.size = c'.size) (h1 : c'.all (·.oneCell') = true)
    (h : wpList P ops Q rest (a.put op.dst undef) (w.alloc (.cells c' ty))) : wpList P ops Q (op :: rest) a (w.alloc (.cells c ty)) :=
  wpList_plain hgd fun K hK => by
    unfold Oper.wp execOp
    simp only [ho, hx, hy, Instr.storeAt, Instr.sureAddr, Sem.run_bind, Sem.run_pure, Result.andThen_ok, run_storeVar_new w ty c c' hi hs h1]
    exact hK _ _ h
set_option maxRecDepth 10000 in
set_option maxHeartbeats 2000000 in
theorem check_calls (c : Cd) (s : Ls) (w : World) (h : CdAt w c s) :
    Calls Tryz.prog 26 #[.agg (cdCells c s)] w fun e w' => e = .returned (.tuple #[.int .i64 (chkB c).1, .int .i64 (chkB c).2]) ∧ Below w.heap.size w w' := by
  have HC : Hid (CdAt w c s) := h
  clear h
  obtain ⟨r1, h1⟩ : ∃ r, rightB c = r := ⟨_, rfl⟩
  have H1 : Hid (rightB c = r1) := h1
  clear h1
  rw [show cdCells c s = #[.int .i64 c.letters, .int .i64 c.planes, .int .i64 c.regs, .int .i64 c.lo, .int .i64 c.hi, .int .i64 c.most, .slice s.t.a s.t.n s.t.c, .slice s.k.a s.k.n s.k.c, .slice s.i.a s.i.n s.i.c, .slice s.r.a s.r.n s.r.c] from rfl]
  go_enter Tryz.func26, Tryz.ntmps26
  go_wp2_with fail
  refine (right_calls c s _ (HC.out.below (below_new _))).mono ?_
  rintro e w1 ⟨rfl, hb⟩
  rw [H1.out]
  have HX : Hid (Bx w (cdCells c s) w1) := (Bx.start w _).next hb
  clear hb
  cases r1
  · go_wp2
    go_ret2
    exact ⟨tup2 (chk0 H1.out), HX.out.low⟩
  have HR : Hid (Rt c) := rt_of H1.out
  obtain ⟨r2, h2⟩ : ∃ r, arsB c = r := ⟨_, rfl⟩
  have H2 : Hid (arsB c = r2) := h2
  clear h2
  have c0 := HX.out.cell 0 (.int .i64 c.letters) rfl
  have c1 := HX.out.cell 1 (.int .i64 c.planes) rfl
  have c2 := HX.out.cell 2 (.int .i64 c.regs) rfl
  have c3 := HX.out.cell 3 (.int .i64 c.lo) rfl
  have c4 := HX.out.cell 4 (.int .i64 c.hi) rfl
  have c5 := HX.out.cell 5 (.int .i64 c.most) rfl
  have c6 := HX.out.cell 6 (.slice s.t.a s.t.n s.t.c) rfl
  have c7 := HX.out.cell 7 (.slice s.k.a s.k.n s.k.c) rfl
  have c8 := HX.out.cell 8 (.slice s.i.a s.i.n s.i.c) rfl
  have c9 := HX.out.cell 9 (.slice s.r.a s.r.n s.r.c) rfl
  go_wp2_with fail
  refine (rightArrowsV_calls c s _ (HC.out.below HX.out.low) HR.out.planes.1 HR.out.planes.2).mono ?_
  rintro e w2 ⟨rfl, hb⟩
  rw [H2.out]
  have HX2 : Hid (Bx w (cdCells c s) w2) := HX.out.next hb
  clear hb c0 c1 c2 c3 c4 c5 c6 c7 c8 c9 HX
  cases r2
  · go_wp2
    go_ret2
    exact ⟨tup2 (chk1 H1.out H2.out), HX2.out.low⟩
  have c0 := HX2.out.cell 0 (.int .i64 c.letters) rfl
  have c1 := HX2.out.cell 1 (.int .i64 c.planes) rfl
  have c2 := HX2.out.cell 2 (.int .i64 c.regs) rfl
  have c3 := HX2.out.cell 3 (.int .i64 c.lo) rfl
  have c4 := HX2.out.cell 4 (.int .i64 c.hi) rfl
  have c5 := HX2.out.cell 5 (.int .i64 c.most) rfl
  have c6 := HX2.out.cell 6 (.slice s.t.a s.t.n s.t.c) rfl
  have c7 := HX2.out.cell 7 (.slice s.k.a s.k.n s.k.c) rfl
  have c8 := HX2.out.cell 8 (.slice s.i.a s.i.n s.i.c) rfl
  have c9 := HX2.out.cell 9 (.slice s.r.a s.r.n s.r.c) rfl
  obtain ⟨Z, L, hz, hzs, hch, HS2, HK⟩ : ∃ Z L : Array Value, (∀ w, (zeroValue 128).run Tryz.prog w = .ok (.agg Z) w) ∧ Z.size = 143 ∧ ((((((((((Z.setIfInBounds 0 (.int .i64 c.letters)).setIfInBounds 1 (.int .i64 c.planes)).setIfInBounds 2 (.int .i64 c.regs)).setIfInBounds 3 (.int .i64 c.lo)).setIfInBounds 4 (.int .i64 c.hi)).setIfInBounds 5 (.int .i64 c.most)).setIfInBounds 6 (.slice s.t.a s.t.n s.t.c)).setIfInBounds 7 (.slice s.k.a s.k.n s.k.c)).setIfInBounds 8 (.slice s.i.a s.i.n s.i.c)).setIfInBounds 9 (.slice s.r.a s.r.n s.r.c)) = L ∧ Hid ((Tryz.prog.info? 128).map (·.size) = some L.size ∧ Z.size = L.size ∧ L.all (·.oneCell') = true) ∧ Hid (Lk w (w2.alloc (.cells L 128)) w2.heap.size c s (st0 0) fun _ => .slice none 0 0) :=
    ⟨zLk, lkCells c s (st0 0) fun _ => .slice none 0 0, zero54.1, zLk_size, zLk_set c s, ⟨by rw [lk_size]; exact zero54.2, by rw [lk_size, zLk_size], lk_one c s⟩, Lk.start HC.out HX2.out.low⟩
  go_upto_region 5 with (fail)
  have HH : Hid ((∀ w, (zeroValue 128).run Tryz.prog w = .ok (.agg Z) w) ∧ Z.size = 143) := ⟨hz, hzs⟩
  have HCH := hch
  have HC2 : Hid (_ = L) := HCH
  clear hz hzs hch HCH
  refine wp_region_list ?_
  refine wpList_plain rfl fun Kc hKc => ?_
  go_simp
  refine hKc _ _ ?_
  clear hKc Kc c0 c1 c2 c3 c4 c5 c6 c7 c8 c9
  refine wpList_plain rfl fun Kc hKc => ?_
  have hz := HH.out.1
  have hlt : ¬ Z.size < 10 := by rw [HH.out.2]; decide
  go_simp
  refine hKc _ _ ?_
  clear hKc Kc hlt
  rw [HC2.out]
  refine wpList_plain rfl fun Kc hKc => ?_
  go_simp
  refine hKc _ _ ?_
  clear hKc Kc hz
  refine wpList_store_new rfl 128 (.tmp 4) (.tmp 14) rfl Z L (by simp [Act.eval]) (by simp [Act.eval]) HS2.out.1 HS2.out.2.1 HS2.out.2.2 ?_
  simp only [Act.put]
  clear HH HC2 HS2
  go_wp2_with fail
  refine (instructions_calls HK.out HR.out).mono ?_
  rintro e w3 ⟨rfl, hl, hbd, hb⟩
  have HBx : Hid (Bx w (cdCells c s) w3) := ⟨(HX2.out.low.alloc HX2.out.low.size _).trans (hb.mono HX2.out.low.size), by have := HX2.out.size; have := hb.size; simp at this; omega, by rw [hb.block _ HX2.out.size, (below_new _).block _ HX2.out.size]; exact HX2.out.box⟩
  have HL3 : Hid (∃ wv, Lk w w3 w2.heap.size c s (goP c (st0 0) 0 c.cell).2 wv) := hl
  have HBd : Hid (Bd (goP c (st0 0) 0 c.cell).2 1000) := hbd
  clear hb hl hbd HK
  have HG : Hid (∀ e, (goP c (st0 0) 0 c.cell).1.2 = e → e = 0 → (goP c (st0 0) 0 c.cell).1.1 = -1) := fun e he h0 => goP_take c c.cell (st0 0) 0 (he.trans h0)
  obtain ⟨at1, hat⟩ : ∃ a, (goP c (st0 0) 0 c.cell).1.1 = a := ⟨_, rfl⟩
  obtain ⟨er, her⟩ : ∃ a, (goP c (st0 0) 0 c.cell).1.2 = a := ⟨_, rfl⟩
  have HAt : Hid ((goP c (st0 0) 0 c.cell).1 = (at1, er)) := Prod.ext hat her
  have HEr : Hid ((goP c (st0 0) 0 c.cell).1.2 = er) := her
  rw [hat, her]
  clear hat her
  by_cases h0 : er = 0
  rotate_left
  · have hd : (er != 0) = true := by simp [h0]
    have HF : Hid (chkB c = (at1, er)) := (chk2 H1.out H2.out (by rw [HEr.out]; exact h0)).trans HAt.out
    clear h0
    go_wp2
    go_ret2
    exact ⟨tup2 HF.out, HBx.out.low⟩
  have hd : (er != 0) = false := by simp [h0]
  have HE0 : Hid ((goP c (st0 0) 0 c.cell).1.2 = 0) := HEr.out.trans h0
  clear h0
  obtain ⟨n, hn⟩ : ∃ n : Nat, c.planes = n := ⟨c.planes.toNat, by have := HR.out.planes; omega⟩
  have HN : Hid (c.planes = n ∧ n ≤ 10 ∧ c.planes.toNat = n) := ⟨hn, by have := HR.out.planes; omega, by omega⟩
  clear hn
  obtain ⟨wv, HL4⟩ := HL3.out
  have HL5 : Hid (Lk w w3 w2.heap.size c s (goP c (st0 0) 0 c.cell).2 wv) := HL4
  clear HL4 HL3
  obtain ⟨r3, h3⟩ : ∃ r, allK (goP c (st0 0) 0 c.cell).2 n = r := ⟨_, rfl⟩
  have H3 : Hid (allK (goP c (st0 0) 0 c.cell).2 n = r3) := h3
  clear h3
  go_wp2_with fail
  refine (allKept_calls HL5.out n HN.out.1 HN.out.2.1).mono ?_
  rintro e w4 ⟨rfl, hb⟩
  rw [H3.out]
  have HB4 : Hid (Bx w (cdCells c s) w4) := HBx.out.next hb
  have HT4 := (HL5.out.next hb).top
  clear hb
  cases r3
  · go_wp2
    go_ret2
    exact ⟨tup2 (chk3 H1.out H2.out HE0.out (by rw [HN.out.2.2]; exact H3.out)), HB4.out.low⟩
  have c0 := HB4.out.cell 0 (.int .i64 c.letters) rfl
  have c1 := HB4.out.cell 1 (.int .i64 c.planes) rfl
  have c2 := HB4.out.cell 2 (.int .i64 c.regs) rfl
  have c3 := HB4.out.cell 3 (.int .i64 c.lo) rfl
  have c4 := HB4.out.cell 4 (.int .i64 c.hi) rfl
  have c5 := HB4.out.cell 5 (.int .i64 c.most) rfl
  have c6 := HB4.out.cell 6 (.slice s.t.a s.t.n s.t.c) rfl
  have c7 := HB4.out.cell 7 (.slice s.k.a s.k.n s.k.c) rfl
  have c8 := HB4.out.cell 8 (.slice s.i.a s.i.n s.i.c) rfl
  have c9 := HB4.out.cell 9 (.slice s.r.a s.r.n s.r.c) rfl
  obtain ⟨r4, h4⟩ : ∃ r, widB c (goP c (st0 0) 0 c.cell).2.top = r := ⟨_, rfl⟩
  have H4 : Hid (widB c (goP c (st0 0) 0 c.cell).2.top = r4) := h4
  clear h4
  go_wp2_with fail
  refine (wideV_calls c s _ _ (HC.out.below HB4.out.low) HR.out.most.1 HR.out.most.2 HBd.out.top.1 HBd.out.top.2).mono ?_
  rintro e w5 ⟨rfl, hb⟩
  rw [H4.out]
  have HF : Hid (chkB c = (-1, if r4 then 165 else 0)) := chk4 H1.out H2.out HE0.out (by rw [HN.out.2.2]; exact H3.out) r4 H4.out
  have HB5 : Hid (Below w.heap.size w w5) := (HB4.out.next hb).low
  clear hb
  cases r4
  · go_wp2
    go_ret2
    exact ⟨tup2 HF.out, HB5.out⟩
  · go_wp2
    go_ret2
    exact ⟨tup2 HF.out, HB5.out⟩
end Go.Proofs.YtnkfibahkmmnpaaGreat
