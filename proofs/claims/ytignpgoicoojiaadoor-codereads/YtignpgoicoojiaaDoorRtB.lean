/-
  The walks of rightHead, rightNumbers, rightCell, rightArrows, Right.
-/
import Derived.Test.YtignpgoicoojiaaDoorRtA
namespace Go.Proofs.YtignpgoicoojiaaDoor
open Go.RowKit

set_option maxHeartbeats 1000000 in
theorem rightHead_calls (c : Cd) (s : Ls) (w : World) :
    Calls Tryd.prog 23 #[.agg (cdCells c s)] w fun e w' => e = .returned (.bool (headB c)) ∧ Below w.heap.size w w' := by
  obtain ⟨L, pl, rg, lo, hi, mo, tb, ks, cs, ar⟩ := c
  obtain ⟨r1, h1⟩ : ∃ r, allB 2 20 [L] = r := ⟨_, rfl⟩
  obtain ⟨r2, h2⟩ : ∃ r, allB 1 10 [pl] = r := ⟨_, rfl⟩
  obtain ⟨r3, h3⟩ : ∃ r, allB 1 16 [rg] = r := ⟨_, rfl⟩
  obtain ⟨r4, h4⟩ : ∃ r, allB 0 65536 [mo] = r := ⟨_, rfl⟩
  obtain ⟨r5, h5⟩ : ∃ r, allB (-65537) 65537 [lo, hi] = r := ⟨_, rfl⟩
  have HE : Hid (headB ⟨L, pl, rg, lo, hi, mo, tb, ks, cs, ar⟩ = (r1 && r2 && r3 && r4 && r5 && decide (lo ≤ hi))) := by
    show _ = _
    subst h1 h2 h3 h4 h5
    simp [headB, allB]
  have H1 : Hid (allB 2 20 [L] = r1) := h1
  have H2 : Hid (allB 1 10 [pl] = r2) := h2
  have H3 : Hid (allB 1 16 [rg] = r3) := h3
  have H4 : Hid (allB 0 65536 [mo] = r4) := h4
  have H5 : Hid (allB (-65537) 65537 [lo, hi] = r5) := h5
  clear h1 h2 h3 h4 h5
  simp only [cdCells]
  go_enter Tryd.func23, Tryd.ntmps23
  go_wp2_with fail
  refine (within_calls 2 20 _ _ _ [L] _ (ints_one _ L _ (by simp))).mono ?_
  rintro e w' ⟨rfl, rfl⟩
  rw [H1.out]
  cases r1
  · go_wp2
    go_ret
    exact ⟨ret_bool (by rw [HE.out]; rfl), ((Below.refl _ _).alloc (Nat.le_refl _) _).alloc (by simp) _⟩
  go_wp2_with fail
  refine (within_calls 1 10 _ _ _ [pl] _ (ints_one _ pl _ (by simp))).mono ?_
  rintro e w' ⟨rfl, rfl⟩
  rw [H2.out]
  cases r2
  · go_wp2
    go_ret
    exact ⟨ret_bool (by rw [HE.out]; rfl), (((Below.refl _ _).alloc (Nat.le_refl _) _).alloc (by simp) _).alloc (by simp; omega) _⟩
  go_wp2_with fail
  refine (within_calls 1 16 _ _ _ [rg] _ (ints_one _ rg _ (by simp))).mono ?_
  rintro e w' ⟨rfl, rfl⟩
  rw [H3.out]
  cases r3
  · go_wp2
    go_ret
    exact ⟨ret_bool (by rw [HE.out]; rfl), ((((Below.refl _ _).alloc (Nat.le_refl _) _).alloc (by simp) _).alloc (by simp; omega) _).alloc (by simp; omega) _⟩
  go_wp2_with fail
  refine (within_calls 0 65536 _ _ _ [mo] _ (ints_one _ mo _ (by simp))).mono ?_
  rintro e w' ⟨rfl, rfl⟩
  rw [H4.out]
  cases r4
  · go_wp2
    go_ret
    exact ⟨ret_bool (by rw [HE.out]; rfl), (((((Below.refl _ _).alloc (Nat.le_refl _) _).alloc (by simp) _).alloc (by simp; omega) _).alloc (by simp; omega) _).alloc (by simp; omega) _⟩
  go_wp2_with fail
  refine (within_calls (-65537) 65537 _ _ _ [lo, hi] _ (ints_two _ lo hi _ (by simp))).mono ?_
  rintro e w' ⟨rfl, rfl⟩
  rw [H5.out]
  cases r5
  · go_wp2
    go_ret
    exact ⟨ret_bool (by rw [HE.out]; rfl), ((((((Below.refl _ _).alloc (Nat.le_refl _) _).alloc (by simp) _).alloc (by simp; omega) _).alloc (by simp; omega) _).alloc (by simp; omega) _).alloc (by simp; omega) _⟩
  go_wp2
  go_ret
  exact ⟨ret_bool (by rw [HE.out]; rfl), ((((((Below.refl _ _).alloc (Nat.le_refl _) _).alloc (by simp) _).alloc (by simp; omega) _).alloc (by simp; omega) _).alloc (by simp; omega) _).alloc (by simp; omega) _⟩

set_option maxHeartbeats 1000000 in
theorem rightNumbers_calls (c : Cd) (s : Ls) (w : World) (h : CdAt w c s) (hL1 : 2 ≤ c.letters) (hL2 : c.letters ≤ 20) :
    Calls Tryd.prog 24 #[.agg (cdCells c s)] w fun e w' => e = .returned (.bool (listsB c)) ∧ Below w.heap.size w w' := by
  have hsq := sq_bd hL1 hL2
  have ht := h.table.short
  have hk := h.consts.short
  unfold maxLen at ht hk
  obtain ⟨L, pl, rg, lo, hi, mo, tb, ks, cs, ar⟩ := c
  obtain ⟨⟨ta, tn, tc⟩, ⟨ka, kn, kc⟩, ⟨ia, n3, ic⟩, ⟨ra, rn, rc⟩⟩ := s
  have hT : IntsAt w ta tn tb := h.table
  have hK : IntsAt w ka kn ks := h.consts
  clear h
  simp only at hL1 hL2 hsq ht hk
  obtain ⟨r1, h1⟩ : ∃ r, allB (-1152921504606846976) 1152921504606846976 tb = r := ⟨_, rfl⟩
  obtain ⟨r2, h2⟩ : ∃ r, allB (-1152921504606846976) 1152921504606846976 ks = r := ⟨_, rfl⟩
  have HE : Hid (listsB ⟨L, pl, rg, lo, hi, mo, tb, ks, cs, ar⟩ = (decide ((tn : Int) = L * L) && decide (kn ≤ 100) && r1 && r2)) := by
    show _ = _
    rw [← hT.length, ← hK.length, ← h1, ← h2]; rfl
  have H1 : Hid (allB (-1152921504606846976) 1152921504606846976 tb = r1) := h1
  have H2 : Hid (allB (-1152921504606846976) 1152921504606846976 ks = r2) := h2
  have HT : Hid (IntsAt w ta tn tb) := hT
  have HK : Hid (IntsAt w ka kn ks) := hK
  clear h1 h2 hT hK
  simp only [cdCells]
  by_cases h3 : (tn : Int) = L * L
  · have h3b : ((tn : Int) == L * L) = true := by simpa using h3
    have h3c : Hid (decide ((tn : Int) = L * L) = true) := by show _ = _; simpa using h3
    clear h3
    by_cases h4 : kn ≤ 100
    · have h4b : decide ((kn : Int) ≤ 100) = true := by simp; omega
      have h4c : Hid (decide (kn ≤ 100) = true) := by show _ = _; simpa using h4
      clear h4
      go_enter Tryd.func24, Tryd.ntmps24
      go_wp2_with fail
      refine (within_calls _ _ _ _ _ tb _ (HT.out.below (below_new _))).mono ?_
      rintro e w' ⟨rfl, rfl⟩
      rw [H1.out]
      cases r1
      · go_wp2
        go_ret
        exact ⟨ret_bool (by rw [HE.out]; simp), below_new _⟩
      go_wp2_with fail
      refine (within_calls _ _ _ _ _ ks _ (HK.out.below (below_new _))).mono ?_
      rintro e w' ⟨rfl, rfl⟩
      rw [H2.out]
      go_wp2
      go_ret
      exact ⟨ret_bool (by rw [HE.out, h3c.out, h4c.out]; simp), below_new _⟩
    · have h4b : decide ((kn : Int) ≤ 100) = false := by simp; omega
      have h4c : Hid (decide (kn ≤ 100) = false) := by show _ = _; simpa using h4
      clear h4
      go_enter Tryd.func24, Tryd.ntmps24
      go_wp2
      go_ret
      exact ⟨ret_bool (by rw [HE.out, h4c.out]; simp), below_new _⟩
  · have h3b : ((tn : Int) == L * L) = false := by simpa using h3
    have h3c : Hid (decide ((tn : Int) = L * L) = false) := by show _ = _; simpa using h3
    clear h3
    go_enter Tryd.func24, Tryd.ntmps24
    go_wp2
    go_ret
    exact ⟨ret_bool (by rw [HE.out, h3c.out]; simp), below_new _⟩

theorem all_bad' {α : Type} {f : α → Bool} {l : List α} {k : Nat} {q : α} (h : l[k]? = some q) (hf : f q = false) : l.all f = false := by
  cases e : l.all f with
  | false => rfl
  | true => rw [List.all_eq_true.1 e q (List.mem_of_getElem? h)] at hf; cases hf
theorem all_good' {α : Type} {f : α → Bool} {l : List α} (h : ∀ (j : Nat) (q : α), l[j]? = some q → f q = true) : l.all f = true := by
  refine List.all_eq_true.2 fun q hq => ?_
  obtain ⟨j, hj, rfl⟩ := List.getElem_of_mem hq
  exact h j _ (List.getElem?_eq_getElem hj)

set_option maxHeartbeats 1000000 in
theorem rightCell_calls (ao : Option Addr) (len cap : Nat) (l : List Qd) (w : World) (h : QdsAt w ao len l) :
    Calls Tryd.prog 25 #[.slice ao len cap] w fun e w' => e = .returned (.bool (cellB l)) ∧ Below w.heap.size w w' := by
  have hs := h.short
  unfold maxLen at hs
  have HL : Hid (QdsAt w ao len l) := h
  have HE : Hid (cellB l = (decide (len ≤ 1000) && l.all fun q => inB 1 8 q.1 && allB 0 65535 [q.2.1, q.2.2.1, q.2.2.2])) := by show _ = _; rw [← h.length]; rfl
  clear h
  by_cases hm : 1000 < len
  · have hd : Hid (decide (len ≤ 1000) = false) := by show _ = _; simp; omega
    go_enter Tryd.func25, Tryd.ntmps25
    go_wp2
    go_ret
    exact ⟨ret_bool (by rw [HE.out, hd.out]; rfl), Below.refl _ _⟩
  have hd : Hid (decide (len ≤ 1000) = true) := by show _ = _; simp; omega
  go_enter Tryd.func25, Tryd.ntmps25
  go_wp2
  go_loopw [4, 10] (fun _ i wr => ∃ k : Nat, k ≤ len ∧ i = .int .i64 k ∧ (∀ (j : Nat) (q : Qd), j < k → l[j]? = some q → (inB 1 8 q.1 && allB 0 65535 [q.2.1, q.2.2.1, q.2.2.2]) = true) ∧ Below w.heap.size w wr) (fun _ i _ => len - (intOf i).toNat)
  case atStart => exact ⟨0, Nat.zero_le _, rfl, fun j q hj => by omega, Below.refl _ _⟩
  case round =>
    obtain ⟨k, hk, rfl, hall, hbx⟩ := hrel
    have HA : Hid (∀ (j : Nat) (q : Qd), j < k → l[j]? = some q → (inB 1 8 q.1 && allB 0 65535 [q.2.1, q.2.2.1, q.2.2.2]) = true) := hall
    have HX : Hid (Below w.heap.size w wr) := hbx
    clear hall hbx
    by_cases hlt : k < len
    · obtain ⟨q, hq⟩ := get_lt (l := l) (k := k) (by rw [HL.out.length]; exact hlt)
      obtain ⟨b, off, rfl, hcs⟩ := (HL.out.below HX.out).cells (by omega)
      obtain ⟨c1, c2, c3, c4⟩ := hcs k q hq
      have HG : Hid (l[k]? = some q) := hq
      clear hcs hq
      obtain ⟨o, x, y, z⟩ := q
      simp only at c1 c2 c3 c4
      obtain ⟨r1, h1⟩ : ∃ r, allB 1 8 [o] = r := ⟨_, rfl⟩
      obtain ⟨r2, h2⟩ : ∃ r, allB 0 65535 [x, y, z] = r := ⟨_, rfl⟩
      have HR : Hid ((inB 1 8 o && allB 0 65535 [x, y, z]) = (r1 && r2)) := by show _ = _; rw [← h1, ← h2]; simp [allB]
      have H1 : Hid (allB 1 8 [o] = r1) := h1
      have H2 : Hid (allB 0 65535 [x, y, z] = r2) := h2
      clear h1 h2
      go_wp2_with fail
      refine (within_calls 1 8 _ _ _ [o] _ (ints_one _ o _ (by simp))).mono ?_
      rintro e w' ⟨rfl, rfl⟩
      rw [H1.out]
      cases r1
      · go_wp2
        go_ret
        exact ⟨ret_bool (by rw [HE.out, all_bad' HG.out HR.out]; simp), (HX.out.alloc HX.out.size _).alloc (Nat.le_trans HX.out.size (by simp)) _⟩
      go_wp2_with fail
      refine (within_calls 0 65535 _ _ _ [x, y, z] _ (ints_three _ x y z _ (by simp))).mono ?_
      rintro e w' ⟨rfl, rfl⟩
      rw [H2.out]
      have hbb : ∀ (o1 o2 o3 : Obj), Below w.heap.size w (((wr.alloc o1).alloc o2).alloc o3) := fun _ _ _ => ((HX.out.alloc HX.out.size _).alloc (Nat.le_trans HX.out.size (by simp)) _).alloc (Nat.le_trans HX.out.size (by simp; omega)) _
      cases r2
      · go_wp2
        go_ret
        exact ⟨ret_bool (by rw [HE.out, all_bad' HG.out HR.out]; simp), hbb _ _ _⟩
      · go_wp2
        go_roundw
        case rel =>
          refine ⟨k + 1, by omega, by go_num, ?_, hbb _ _ _⟩
          intro j q hj hjq
          by_cases e : j = k
          · subst e; rw [HG.out] at hjq; cases hjq; exact HR.out
          · exact HA.out j q (by omega) hjq
        case measure => simp [intOf]; omega
    · have HEnd : Hid (cellB l = true) := by
        show _ = _
        rw [HE.out, hd.out, all_good' (fun j q hj => HA.out j q (by have := (List.getElem?_eq_some_iff.1 hj).1; rw [HL.out.length] at this; omega) hj)]; rfl
      go_wp2
      go_ret
      exact ⟨ret_bool HEnd.out.symm, HX.out⟩

set_option maxHeartbeats 1000000 in
theorem rightArrows_calls (ao : Option Addr) (len cap : Nat) (l : List Qd) (w : World) (h : QdsAt w ao len l) :
    Calls Tryd.prog 26 #[.slice ao len cap] w fun e w' => e = .returned (.bool (arrowsB l)) ∧ Below w.heap.size w w' := by
  have hs := h.short
  unfold maxLen at hs
  have HL : Hid (QdsAt w ao len l) := h
  have HE : Hid (arrowsB l = (decide (len ≤ 160) && l.all fun q => allB 0 65535 (q4 q))) := by show _ = _; rw [← h.length]; rfl
  clear h
  by_cases hm : 160 < len
  · have hd : Hid (decide (len ≤ 160) = false) := by show _ = _; simp; omega
    go_enter Tryd.func26, Tryd.ntmps26
    go_wp2
    go_ret
    exact ⟨ret_bool (by rw [HE.out, hd.out]; rfl), Below.refl _ _⟩
  have hd : Hid (decide (len ≤ 160) = true) := by show _ = _; simp; omega
  go_enter Tryd.func26, Tryd.ntmps26
  go_wp2
  go_loopw [4, 10] (fun _ i wr => ∃ k : Nat, k ≤ len ∧ i = .int .i64 k ∧ (∀ (j : Nat) (q : Qd), j < k → l[j]? = some q → allB 0 65535 (q4 q) = true) ∧ Below w.heap.size w wr) (fun _ i _ => len - (intOf i).toNat)
  case atStart => exact ⟨0, Nat.zero_le _, rfl, fun j q hj => by omega, Below.refl _ _⟩
  case round =>
    obtain ⟨k, hk, rfl, hall, hbx⟩ := hrel
    have HA : Hid (∀ (j : Nat) (q : Qd), j < k → l[j]? = some q → allB 0 65535 (q4 q) = true) := hall
    have HX : Hid (Below w.heap.size w wr) := hbx
    clear hall hbx
    by_cases hlt : k < len
    · obtain ⟨q, hq⟩ := get_lt (l := l) (k := k) (by rw [HL.out.length]; exact hlt)
      obtain ⟨b, off, rfl, hcs⟩ := (HL.out.below HX.out).cells (by omega)
      obtain ⟨c1, c2, c3, c4⟩ := hcs k q hq
      have HG : Hid (l[k]? = some q) := hq
      clear hcs hq
      obtain ⟨o, x, y, z⟩ := q
      simp only at c1 c2 c3 c4
      obtain ⟨r2, h2⟩ : ∃ r, allB 0 65535 [o, x, y, z] = r := ⟨_, rfl⟩
      have H2 : Hid (allB 0 65535 [o, x, y, z] = r2) := h2
      clear h2
      go_wp2_with fail
      refine (within_calls 0 65535 _ _ _ [o, x, y, z] _ (ints_four _ o x y z _ (by simp))).mono ?_
      rintro e w' ⟨rfl, rfl⟩
      rw [H2.out]
      have hbb : ∀ (o1 o2 : Obj), Below w.heap.size w ((wr.alloc o1).alloc o2) := fun _ _ => (HX.out.alloc HX.out.size _).alloc (Nat.le_trans HX.out.size (by simp)) _
      cases r2
      · go_wp2
        go_ret
        exact ⟨ret_bool (by rw [HE.out, all_bad' HG.out H2.out]; simp), hbb _ _⟩
      · go_wp2
        go_roundw
        case rel =>
          refine ⟨k + 1, by omega, by go_num, ?_, hbb _ _⟩
          intro j q hj hjq
          by_cases e : j = k
          · subst e; rw [HG.out] at hjq; cases hjq; exact H2.out
          · exact HA.out j q (by omega) hjq
        case measure => simp [intOf]; omega
    · have HEnd : Hid (arrowsB l = true) := by
        show _ = _
        rw [HE.out, hd.out, all_good' (fun j q hj => HA.out j q (by have := (List.getElem?_eq_some_iff.1 hj).1; rw [HL.out.length] at this; omega) hj)]; rfl
      go_wp2
      go_ret
      exact ⟨ret_bool HEnd.out.symm, HX.out⟩

set_option maxHeartbeats 1000000 in
theorem right_calls (c : Cd) (s : Ls) (w : World) (h : CdAt w c s) :
    Calls Tryd.prog 12 #[.agg (cdCells c s)] w fun e w' => e = .returned (.bool (rightB c)) ∧ Below w.heap.size w w' := by
  have HC : Hid (CdAt w c s) := h
  clear h
  obtain ⟨r1, h1⟩ : ∃ r, headB c = r := ⟨_, rfl⟩
  obtain ⟨r2, h2⟩ : ∃ r, listsB c = r := ⟨_, rfl⟩
  obtain ⟨r3, h3⟩ : ∃ r, cellB c.cell = r := ⟨_, rfl⟩
  obtain ⟨r4, h4⟩ : ∃ r, arrowsB c.arrows = r := ⟨_, rfl⟩
  have HE : Hid (rightB c = (r1 && r2 && r3 && r4)) := by show _ = _; rw [← h1, ← h2, ← h3, ← h4]; rfl
  have H1 : Hid (headB c = r1) := h1
  have H2 : Hid (listsB c = r2) := h2
  have H3 : Hid (cellB c.cell = r3) := h3
  have H4 : Hid (arrowsB c.arrows = r4) := h4
  clear h1 h2 h3 h4
  rw [show cdCells c s = #[.int .i64 c.letters, .int .i64 c.planes, .int .i64 c.regs, .int .i64 c.lo, .int .i64 c.hi, .int .i64 c.most, .slice s.t.a s.t.n s.t.c, .slice s.k.a s.k.n s.k.c, .slice s.i.a s.i.n s.i.c, .slice s.r.a s.r.n s.r.c] from rfl]
  go_enter Tryd.func12, Tryd.ntmps12
  go_wp2_with fail
  refine (rightHead_calls c s _).mono ?_
  rintro e w1 ⟨rfl, hb⟩
  rw [H1.out]
  have HX : Hid (Bx w (cdCells c s) w1) := (Bx.start w _).next hb
  clear hb
  cases r1
  · go_wp2
    go_ret
    exact ⟨ret_bool (by rw [HE.out]; rfl), HX.out.low⟩
  have HLL : Hid (2 ≤ c.letters ∧ c.letters ≤ 20) := by
    have := H1.out
    simp [headB, inB_iff] at this
    exact this.1.1.1.1.1
  have c0 := HX.out.cell 0 (.int .i64 c.letters) rfl
  have c1 := HX.out.cell 1 (.int .i64 c.planes) rfl
  have c2 := HX.out.cell 2 (.int .i64 c.regs) rfl
  have c3 := HX.out.cell 3 (.int .i64 c.lo) rfl
  have c4 := HX.out.cell 4 (.int .i64 c.hi) rfl
  have c5 := HX.out.cell 5 (.int .i64 c.most) rfl
  have c6 := HX.out.cell 6 (.slice s.t.a s.t.n s.t.c) rfl
  have c7 := HX.out.cell 7 (.slice s.k.a s.k.n s.k.c) rfl
  have c8 := HX.out.cell 8 (.slice s.i.a s.i.n s.i.c) rfl
  have c9 := HX.out.cell 9 (.slice s.r.a s.r.n s.r.c) rfl
  go_wp2_with fail
  refine (rightNumbers_calls c s _ (HC.out.below HX.out.low) HLL.out.1 HLL.out.2).mono ?_
  rintro e w2 ⟨rfl, hb⟩
  rw [H2.out]
  have HX2 : Hid (Bx w (cdCells c s) w2) := HX.out.next hb
  clear hb c0 c1 c2 c3 c4 c5 c6 c7 c8 c9 HX
  cases r2
  · go_wp2
    go_ret
    exact ⟨ret_bool (by rw [HE.out]; rfl), HX2.out.low⟩
  have c8 := HX2.out.cell 8 (.slice s.i.a s.i.n s.i.c) rfl
  go_wp2_with fail
  refine (rightCell_calls _ _ _ _ _ (HC.out.below HX2.out.low).cell).mono ?_
  rintro e w3 ⟨rfl, hb⟩
  rw [H3.out]
  have HX3 : Hid (Bx w (cdCells c s) w3) := HX2.out.next hb
  clear hb c8 HX2
  cases r3
  · go_wp2
    go_ret
    exact ⟨ret_bool (by rw [HE.out]; rfl), HX3.out.low⟩
  have c9 := HX3.out.cell 9 (.slice s.r.a s.r.n s.r.c) rfl
  go_wp2_with fail
  refine (rightArrows_calls _ _ _ _ _ (HC.out.below HX3.out.low).arrows).mono ?_
  rintro e w4 ⟨rfl, hb⟩
  rw [H4.out]
  have HX4 : Hid (Bx w (cdCells c s) w4) := HX3.out.next hb
  clear hb c9 HX3
  go_wp2
  go_ret
  exact ⟨ret_bool (by rw [HE.out]; rfl), HX4.out.low⟩
end Go.Proofs.YtignpgoicoojiaaDoor
