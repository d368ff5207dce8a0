/-
  The walk of the document's step.
-/
import Derived.Test.YtdbfcclmmpcijaaVdF
namespace Go.Proofs.Ytdbfcclmmpcijaa
open Go.RowKit

section
variable {w0 w : World} {b : Nat} {c : Cd} {s : Ls} {S : St} {wv : Nat → Value} {gr gk gw R P : Nat}
theorem rd6 {S : St} {x y z : Nat} (h : rdB S (6, x, y, z) = true) : (S.regs x).wr = true ∧ (S.regs y).wr = true := by
  simpa [rdB] using h
theorem ddoes_calls (o : Int) (x y z : Nat) (h : Dl w0 w b c s S wv gr gk gw R P) (ho : 1 ≤ o ∧ o ≤ 8) (hn : Nd o x y R P) (hr : rdB S (o, x, y, z) = true) (hw : Wt S) (hb : Bd S 999) :
    Calls Try.prog 44 #[.pointer (some ⟨b, 0, none⟩), .agg #[.int .i64 o, .int .i64 x, .int .i64 y, .int .i64 z]] w fun e w' => e = .returned (.tuple #[]) ∧ ∃ wv', Dl w0 w' b c s (pastP S (o, x, y, z)) wv' gr gk gw R P := by
  have : o = 1 ∨ o = 2 ∨ o = 3 ∨ o = 4 ∨ o = 5 ∨ o = 6 ∨ o = 7 ∨ o = 8 := by omega
  rcases this with rfl | rfl | rfl | rfl | rfl | rfl | rfl | rfl
  · exact ddoes1 x y z h (hn.a (by decide))
  · exact ddoes2 x y z h (hn.a (by decide))
  · by_cases hz : z = 0
    · subst hz; exact ddoes3z x y h (hn.a (by decide)) (hn.b3 rfl) (hw.pl y)
    · exact ddoes3n x y z h (hn.a (by decide)) hz
  · exact ddoes4 x y z h (hn.a (by decide)) (hb.reg x).1 (by have := (hb.reg x).2; omega)
  · exact ddoes5 x y z h (hn.a (by decide)) (hb.reg x).1 (by have := (hb.reg x).2; omega)
  · exact ddoes6 x y z h (hn.a (by decide)) (hn.b6 rfl) (rd6 hr).1 (rd6 hr).2 (by have := hb.ways x; omega)
  · exact ddoes7 x y z h (hn.p7 rfl).1 (hn.p7 rfl).2
  · exact ddoes8 x y z h (hn.p8 rfl) (hb.pl x).1 (by have := (hb.pl x).2; omega)
theorem wt_weigh {S : St} (h : Wt S) (n : Int) : Wt (weighP S n) :=
  ⟨fun r => by have := h.reg r; show (S.regs r).weight ≤ max (max S.top n) 1; omega, fun p => by have := h.pl p; show (S.pl p).2 ≤ max (max S.top n) 1; omega, h.reg0, h.pl0⟩
theorem wt_setR {S : St} (h : Wt S) (k : Nat) (x : Rg) (h1 : x.weight ≤ max S.top 1) (h0 : 0 ≤ x.weight) : Wt (setR S k x) :=
  ⟨fun r => by show (updR S.regs k x r).weight ≤ max S.top 1; unfold updR; split <;> first | exact h1 | exact h.reg r, h.pl, fun r => by show 0 ≤ (updR S.regs k x r).weight; unfold updR; split <;> first | exact h0 | exact h.reg0 r, h.pl0⟩
theorem wt_setR2 {S : St} (h : Wt S) (k : Nat) (x : Rg) (n : Int) (h1 : x.weight ≤ max (max S.top n) 1) (h0 : 0 ≤ x.weight) : Wt (weighP (setR S k x) n) :=
  ⟨fun r => by
    show (updR S.regs k x r).weight ≤ max (max S.top n) 1
    unfold updR; split
    · exact h1
    · have := h.reg r; omega, fun p => by have := h.pl p; show (S.pl p).2 ≤ max (max S.top n) 1; omega, fun r => by show 0 ≤ (updR S.regs k x r).weight; unfold updR; split <;> first | exact h0 | exact h.reg0 r, h.pl0⟩
theorem wt_past {S : St} (h : Wt S) (q : Qd) : Wt (pastP S q) := by
  unfold pastP
  split
  · exact wt_setR2 h _ _ _ (by show (0 : Int) ≤ _; omega) (Int.le_refl _)
  split
  · exact wt_setR2 h _ _ _ (by show (1 : Int) ≤ max (max S.top 1) 1; omega) (by show (0 : Int) ≤ 1; omega)
  split
  · refine wt_setR2 h _ _ _ ?_ ?_
    · show (loadB S q.2.2.1 q.2.2.2).weight ≤ max (max S.top (loadB S q.2.2.1 q.2.2.2).weight) 1; omega
    · show 0 ≤ (loadB S q.2.2.1 q.2.2.2).weight
      unfold loadB; split
      · exact h.pl0 _
      · exact Int.le_refl _
  split
  · refine wt_setR2 h _ _ _ ?_ ?_
    · show (S.regs q.2.1.toNat).weight + 1 ≤ max (max S.top ((S.regs q.2.1.toNat).weight + 1)) 1; omega
    · show 0 ≤ (S.regs q.2.1.toNat).weight + 1; have := h.reg0 q.2.1.toNat; omega
  split
  · refine wt_setR h _ _ ?_ ?_
    · show max (S.regs q.2.1.toNat).weight (S.regs q.2.2.1.toNat).weight ≤ _; have := h.reg q.2.1.toNat; have := h.reg q.2.2.1.toNat; omega
    · show 0 ≤ max (S.regs q.2.1.toNat).weight (S.regs q.2.2.1.toNat).weight; have := h.reg0 q.2.1.toNat; omega
  split
  · refine ⟨h.reg, fun p => ?_, h.reg0, fun p => ?_⟩
    · show (updP S.pl q.2.1.toNat (true, (S.regs q.2.2.1.toNat).weight) p).2 ≤ max S.top 1; unfold updP; split
      · exact h.reg _
      · exact h.pl p
    · show 0 ≤ (updP S.pl q.2.1.toNat (true, (S.regs q.2.2.1.toNat).weight) p).2; unfold updP; split
      · exact h.reg0 _
      · exact h.pl0 p
  · exact wt_weigh h _
theorem wt_start : Wt (st0 0) := ⟨fun _ => by show (0 : Int) ≤ max 0 1; omega, fun _ => by show (0 : Int) ≤ max 0 1; omega, fun _ => Int.le_refl _, fun _ => Int.le_refl _⟩
theorem err1 {q : Qd} (h : namB c q = false) : errB c S q = 162 := by rw [errB, if_pos h]
theorem err2 {q : Qd} (h : namB c q = true) (h2 : rdB S q = false) : errB c S q = 163 := by rw [errB, if_neg (by rw [h]; decide), if_pos h2]
theorem err3 {q : Qd} (h : namB c q = true) (h2 : rdB S q = true) (h3 : twB S q = true) : errB c S q = 164 := by rw [errB, if_neg (by rw [h]; decide), if_neg (by rw [h2]; decide), if_pos h3]
theorem err4 {q : Qd} (h : namB c q = true) (h2 : rdB S q = true) (h3 : twB S q = false) (h4 : gdB c S q = false) : errB c S q = 161 := by rw [errB, if_neg (by rw [h]; decide), if_neg (by rw [h2]; decide), if_neg (by rw [h3]; decide), if_pos h4]
theorem err5 {q : Qd} (h : namB c q = true) (h2 : rdB S q = true) (h3 : twB S q = false) (h4 : gdB c S q = true) : errB c S q = 0 := by rw [errB, if_neg (by rw [h]; decide), if_neg (by rw [h2]; decide), if_neg (by rw [h3]; decide), if_neg (by rw [h4]; decide)]
/-- The look, and the instruction's box. -/
structure Sf (w0 wd : World) (b : Nat) (c : Cd) (s : Ls) (S : St) (wv : Nat → Value) (gr gk gw R P gb : Nat) (I : Array Value) : Prop where
  dl : Dl w0 wd b c s S wv gr gk gw R P
  b3 : wd.heap[gb]? = some (.cells I 35 (0, 0))
theorem Sf.next {w2 : World} {gb : Nat} {I : Array Value} (h : Sf w0 w b c s S wv gr gk gw R P gb I) (hb : Below w.heap.size w w2) : Sf w0 w2 b c s S wv gr gk gw R P gb I := ⟨h.dl.next hb, row_next h.b3 hb⟩
theorem Sf.cell {gb : Nat} {I : Array Value} (h : Sf w0 w b c s S wv gr gk gw R P gb I) (i : Nat) (v : Value) (hv : I[i]? = some v) : w.cell? ⟨gb, i, none⟩ = some v := cell_block h.b3 i v hv
/-- What step leaves. -/
def StepPost (w0 w' : World) (b : Nat) (c : Cd) (s : Ls) (S : St) (gr gk gw R P : Nat) (q : Qd) : Prop :=
  (errB c S q = 0 → ∃ wv', Dl w0 w' b c s (pastP S q) wv' gr gk gw R P) ∧ Below w0.heap.size w0 w'
theorem sp_bad {q : Qd} {e : Int} (he : errB c S q = e) (hne : e ≠ 0) (hb : Below w0.heap.size w0 w) : Ending.returned (.int .i64 e) = .returned (.int .i64 (errB c S q)) ∧ StepPost w0 w b c s S gr gk gw R P q :=
  ⟨by rw [he], fun h => absurd (he.symm.trans h) hne, hb⟩
theorem sp_good {q : Qd} (he : errB c S q = 0) (h : ∃ wv', Dl w0 w b c s (pastP S q) wv' gr gk gw R P) : Ending.returned (.int .i64 0) = .returned (.int .i64 (errB c S q)) ∧ StepPost w0 w b c s S gr gk gw R P q :=
  ⟨by rw [he], fun _ => h, by obtain ⟨_, h⟩ := h; exact h.low⟩
set_option maxRecDepth 10000 in
set_option maxHeartbeats 1000000 in
theorem dstep_calls (o : Int) (x y z : Nat) (h : Dl w0 w b c s S wv gr gk gw R P) (ho : 1 ≤ o ∧ o ≤ 8) (hR : c.regs = R) (hP : c.planes = P) (hw : Wt S) (hb : Bd S 999) :
    Calls Try.prog 24 #[.pointer (some ⟨b, 0, none⟩), .agg #[.int .i64 o, .int .i64 x, .int .i64 y, .int .i64 z]] w fun e w' => e = .returned (.int .i64 (errB c S (o, x, y, z))) ∧ StepPost w0 w' b c s S gr gk gw R P (o, x, y, z) := by
  have HW : Hid (Wt S ∧ Bd S 999 ∧ (1 ≤ o ∧ o ≤ 8)) := ⟨hw, hb, ho⟩
  have HRP : Hid (c.regs = R ∧ c.planes = P) := ⟨hR, hP⟩
  have HF : Hid (Sf w0 (w.alloc (.cells #[.int .i64 o, .int .i64 x, .int .i64 y, .int .i64 z] 35)) b c s S wv gr gk gw R P w.heap.size #[.int .i64 o, .int .i64 x, .int .i64 y, .int .i64 z]) := ⟨h.alloc _, heap_alloc_new _ _⟩
  clear h hw hb ho hR hP
  obtain ⟨n1, h1⟩ : ∃ r, namB c (o, (x : Int), (y : Int), (z : Int)) = r := ⟨_, rfl⟩
  have H1 : Hid (namB c (o, (x : Int), (y : Int), (z : Int)) = n1) := h1
  clear h1
  go_enter Try.func24, Try.ntmps24
  go_wp2_with fail
  refine (dnamed_calls o x y z HF.out.dl HW.out.2.2 (by omega) (by omega)).mono ?_
  rintro e w1 ⟨rfl, hb⟩
  rw [H1.out]
  have HF1 : Hid _ := HF.out.next hb
  clear hb HF
  generalize w.heap.size = gb at *
  cases n1
  · go_wp2
    go_ret
    exact sp_bad (err1 H1.out) (by decide) HF1.out.dl.low
  have HN : Hid (Nd o x y R P) := nd_of HRP.out.1 HRP.out.2 HW.out.2.2.1 HW.out.2.2.2 H1.out
  obtain ⟨n2, h2⟩ : ∃ r, rdB S (o, (x : Int), (y : Int), (z : Int)) = r := ⟨_, rfl⟩
  have H2 : Hid (rdB S (o, (x : Int), (y : Int), (z : Int)) = n2) := h2
  clear h2
  have c0 := HF1.out.cell 0 (.int .i64 o) rfl
  have c1 := HF1.out.cell 1 (.int .i64 x) rfl
  have c2 := HF1.out.cell 2 (.int .i64 y) rfl
  have c3 := HF1.out.cell 3 (.int .i64 z) rfl
  go_wp2_with fail
  refine (dreads_calls o x y z HF1.out.dl HW.out.2.2 HN.out).mono ?_
  rintro e w2 ⟨rfl, hb⟩
  rw [H2.out]
  have HF2 : Hid _ := HF1.out.next hb
  clear hb HF1 c0 c1 c2 c3
  cases n2
  · go_wp2
    go_ret
    exact sp_bad (err2 H1.out H2.out) (by decide) HF2.out.dl.low
  have c0 := HF2.out.cell 0 (.int .i64 o) rfl
  have c1 := HF2.out.cell 1 (.int .i64 x) rfl
  have c2 := HF2.out.cell 2 (.int .i64 y) rfl
  have c3 := HF2.out.cell 3 (.int .i64 z) rfl
  by_cases h7 : o = 7
  rotate_left
  · have hd : (o == 7) = false := by simp [h7]
    have HE : Hid (errB c S (o, (x : Int), (y : Int), (z : Int)) = 0) := err5 H1.out H2.out (by simp [twB, h7]) (by simp [gdB, h7])
    clear h7
    go_wp2_with fail
    refine (ddoes_calls o x y z HF2.out.dl HW.out.2.2 HN.out H2.out HW.out.1 HW.out.2.1).mono ?_
    rintro e w3 ⟨rfl, hd3⟩
    have HD3 : Hid (∃ wv', Dl w0 w3 b c s (pastP S (o, x, y, z)) wv' gr gk gw R P) := hd3
    clear hd3 HF2 c0 c1 c2 c3
    go_wp2
    go_ret
    exact sp_good HE.out HD3.out
  subst h7
  have HT : Hid (twB S (7, (x : Int), (y : Int), (z : Int)) = (S.pl x).1) := by show _ = _; simp [twB]
  have HG : Hid (gdB c S (7, (x : Int), (y : Int), (z : Int)) = goodB x (S.regs y) c.arrows) := by show _ = _; simp [gdB, goodB]
  have hxP := (HN.out.p7 rfl).1
  have hyR := (HN.out.p7 rfl).2
  have k11 := HF2.out.dl.cell 11 (v := .slice (some ⟨gk, 0, none⟩) P P) rfl
  have p0 := HF2.out.dl.kp x hxP
  obtain ⟨n3, h3⟩ : ∃ r, (S.pl x).1 = r := ⟨_, rfl⟩
  rw [h3] at p0 HT
  clear h3
  cases n3
  rotate_left
  · go_wp2_with fail
    go_quiet (fail)
    have HL : Hid (Below w0.heap.size w0 (w2.drewN nq)) := below_drewN HF2.out.dl.low nq
    generalize w2.drewN nq = wz at *
    clear p0 k11 c0 c1 c2 c3
    go_wp2
    go_ret
    exact sp_bad (err3 H1.out H2.out HT.out) (by decide) HL.out
  go_wp2_with fail
  go_quiet (fail)
  have HF3 : Hid _ := HF2.out.next (below_drewN (Below.refl _ _) nq)
  clear p0 k11 c0 c1 c2 c3 HF2
  generalize w2.drewN nq = wz at *
  go_upto_region 10 with (fail)
  obtain ⟨ya, yc, hya⟩ := owned_shape (HF3.out.dl.rows y hyR)
  have HFd := HF3.out.next (below_drewN (Below.refl _ _) 1)
  have HF4 : Hid (Sf w0 wz.drew b c s S wv gr gk gw R P gb #[.int .i64 7, .int .i64 x, .int .i64 y, .int .i64 z]) := HFd
  have HQ : Hid (QdsAt wz.drew ya (S.regs y).ways.length (S.regs y).ways) := by
    have := HFd.dl.rows y hyR
    rw [hya] at this
    exact qds_owned this
  have HS : Hid (wz.drew.cell? ⟨b, 10, none⟩ = some (.slice (some ⟨gr, 0, none⟩) R R) ∧ wz.drew.cell? ⟨gb, 1, none⟩ = some (.int .i64 x) ∧ wz.drew.cell? ⟨gb, 2, none⟩ = some (.int .i64 y) ∧ wz.drew.cell? ⟨gr, y * 7, none⟩ = some (.bool (S.regs y).wr) ∧ wz.drew.cell? ⟨gr, y * 7 + 1, none⟩ = some (.bool ((S.regs y).wr && !(S.regs y).met)) ∧ wz.drew.cell? ⟨gr, y * 7 + 2, none⟩ = some (.int .i64 (S.regs y).kind) ∧ wz.drew.cell? ⟨gr, y * 7 + 3, none⟩ = some (.int .i64 (S.regs y).plane) ∧ wz.drew.cell? ⟨gr, y * 7 + 4, none⟩ = some (.int .i64 (S.regs y).step) ∧ wz.drew.cell? ⟨gr, y * 7 + 5, none⟩ = some (.slice ya (S.regs y).ways.length yc) ∧ wz.drew.cell? ⟨gr, y * 7 + 6, none⟩ = some (.int .i64 (S.regs y).weight)) :=
    ⟨HFd.dl.cell 10 rfl, HFd.cell 1 _ rfl, HFd.cell 2 _ rfl, HFd.dl.reg y 0 hyR (by omega) rfl, HFd.dl.reg y 1 hyR (by omega) rfl, HFd.dl.reg y 2 hyR (by omega) rfl, HFd.dl.reg y 3 hyR (by omega) rfl, HFd.dl.reg y 4 hyR (by omega) rfl, HFd.dl.reg y 5 hyR (by omega) hya, HFd.dl.reg y 6 hyR (by omega) rfl⟩
  clear HFd HF3 hya
  obtain ⟨n4, h4⟩ : ∃ r, goodB x (S.regs y) c.arrows = r := ⟨_, rfl⟩
  have H4 : Hid (goodB x (S.regs y) c.arrows = n4) := h4
  clear h4
  refine wp_region_Y (fun j => [11].contains j) (fun W : World => W.cell? ⟨b, 10, none⟩ = some (.slice (some ⟨gr, 0, none⟩) R R) ∧ W.cell? ⟨gb, 1, none⟩ = some (.int .i64 x) ∧ W.cell? ⟨gb, 2, none⟩ = some (.int .i64 y) ∧ W.cell? ⟨gr, y * 7, none⟩ = some (.bool (S.regs y).wr) ∧ W.cell? ⟨gr, y * 7 + 1, none⟩ = some (.bool ((S.regs y).wr && !(S.regs y).met)) ∧ W.cell? ⟨gr, y * 7 + 2, none⟩ = some (.int .i64 (S.regs y).kind) ∧ W.cell? ⟨gr, y * 7 + 3, none⟩ = some (.int .i64 (S.regs y).plane) ∧ W.cell? ⟨gr, y * 7 + 4, none⟩ = some (.int .i64 (S.regs y).step) ∧ W.cell? ⟨gr, y * 7 + 5, none⟩ = some (.slice ya (S.regs y).ways.length yc) ∧ W.cell? ⟨gr, y * 7 + 6, none⟩ = some (.int .i64 (S.regs y).weight)) (by kernel_rfl) ?_
  refine wpAnyY_pure (i := 0) 27 (v := .pointer (some ⟨b, 0, none⟩)) rfl rfl (by kernel_rfl) (by kernel_rfl) (by kernel_rfl) (fun _ _ _ h => h) (Or.inl ⟨by rfl, by (intro W _; go_simp)⟩) ?_
  simp only [Act.put, List.setIfInBounds_toArray, List.set_cons_succ, List.set_cons_zero]
  refine wpAnyY_pure (i := 1) 28 (v := .pointer (some ⟨gb, 1, none⟩)) rfl rfl (by kernel_rfl) (by kernel_rfl) (by kernel_rfl) (fun _ _ _ h => h) (Or.inl ⟨by rfl, by (intro W _; go_simp)⟩) ?_
  simp only [Act.put, List.setIfInBounds_toArray, List.set_cons_succ, List.set_cons_zero]
  refine wpAnyY_takeD (i := 2) 29 (v := .int .i64 x) rfl rfl (by kernel_rfl) (by kernel_rfl) (late_of (by kernel_rfl)) (by kernel_rfl) (by kernel_rfl) (fun _ _ _ h => h) HS.out (Or.inl ⟨by rfl, by (intro W hW; obtain ⟨e0, e1, e2, e3, e4, e5, e6, e7, e8, e9⟩ := hW; go_simp)⟩) ?_
  simp only [Act.put, List.setIfInBounds_toArray, List.set_cons_succ, List.set_cons_zero]
  refine wpAnyY_pure (i := 3) 30 (v := .pointer (some ⟨b, 0, none⟩)) rfl rfl (by kernel_rfl) (by kernel_rfl) (by kernel_rfl) (fun _ _ _ h => h) (Or.inl ⟨by rfl, by (intro W _; go_simp)⟩) ?_
  simp only [Act.put, List.setIfInBounds_toArray, List.set_cons_succ, List.set_cons_zero]
  refine wpAnyY_pure (i := 4) 31 (v := .pointer (some ⟨b, 0, none⟩)) rfl rfl (by kernel_rfl) (by kernel_rfl) (by kernel_rfl) (fun _ _ _ h => h) (Or.inl ⟨by rfl, by (intro W _; go_simp)⟩) ?_
  simp only [Act.put, List.setIfInBounds_toArray, List.set_cons_succ, List.set_cons_zero]
  refine wpAnyY_pure (i := 5) 32 (v := .pointer (some ⟨b, 10, none⟩)) rfl rfl (by kernel_rfl) (by kernel_rfl) (by kernel_rfl) (fun _ _ _ h => h) (Or.inl ⟨by rfl, by (intro W _; go_simp)⟩) ?_
  simp only [Act.put, List.setIfInBounds_toArray, List.set_cons_succ, List.set_cons_zero]
  refine wpAnyY_takeD (i := 6) 33 (v := .slice (some ⟨gr, 0, none⟩) R R) rfl rfl (by kernel_rfl) (by kernel_rfl) (late_of (by kernel_rfl)) (by kernel_rfl) (by kernel_rfl) (fun _ _ _ h => h) HS.out (Or.inl ⟨by rfl, by (intro W hW; obtain ⟨e0, e1, e2, e3, e4, e5, e6, e7, e8, e9⟩ := hW; go_simp)⟩) ?_
  simp only [Act.put, List.setIfInBounds_toArray, List.set_cons_succ, List.set_cons_zero]
  refine wpAnyY_pure (i := 7) 34 (v := .pointer (some ⟨gb, 2, none⟩)) rfl rfl (by kernel_rfl) (by kernel_rfl) (by kernel_rfl) (fun _ _ _ h => h) (Or.inl ⟨by rfl, by (intro W _; go_simp)⟩) ?_
  simp only [Act.put, List.setIfInBounds_toArray, List.set_cons_succ, List.set_cons_zero]
  refine wpAnyY_takeD (i := 8) 35 (v := .int .i64 y) rfl rfl (by kernel_rfl) (by kernel_rfl) (late_of (by kernel_rfl)) (by kernel_rfl) (by kernel_rfl) (fun _ _ _ h => h) HS.out (Or.inl ⟨by rfl, by (intro W hW; obtain ⟨e0, e1, e2, e3, e4, e5, e6, e7, e8, e9⟩ := hW; go_simp)⟩) ?_
  simp only [Act.put, List.setIfInBounds_toArray, List.set_cons_succ, List.set_cons_zero]
  refine wpAnyY_pure (i := 9) 36 (v := .pointer (some ⟨gr, y * 7, none⟩)) rfl rfl (by kernel_rfl) (by kernel_rfl) (by kernel_rfl) (fun _ _ _ h => h) (Or.inl ⟨by rfl, by (intro W _; go_simp)⟩) ?_
  simp only [Act.put, List.setIfInBounds_toArray, List.set_cons_succ, List.set_cons_zero]
  refine wpAnyY_takeD (i := 10) 37 (v := .agg #[.bool (S.regs y).wr, .bool ((S.regs y).wr && !(S.regs y).met), .int .i64 (S.regs y).kind, .int .i64 (S.regs y).plane, .int .i64 (S.regs y).step, .slice ya (S.regs y).ways.length yc, .int .i64 (S.regs y).weight]) rfl rfl (by kernel_rfl) (by kernel_rfl) (late_of (by kernel_rfl)) (by kernel_rfl) (by kernel_rfl) (fun _ _ _ h => h) HS.out (Or.inl ⟨by rfl, by (intro W hW; obtain ⟨e0, e1, e2, e3, e4, e5, e6, e7, e8, e9⟩ := hW; go_simp)⟩) ?_
  simp only [Act.put, List.setIfInBounds_toArray, List.set_cons_succ, List.set_cons_zero]
  refine wpAnyY_one (i := 11) rfl (by kernel_rfl) (fun Kc hKc => ?_)
  refine step_fnD 38 rfl (by rfl) 43 _ _ rfl Try.f43 Try.func43 (by kernel_rfl) (by kernel_rfl) #[.pointer (some ⟨b, 0, none⟩), .int .i64 x, .agg #[.bool (S.regs y).wr, .bool ((S.regs y).wr && !(S.regs y).met), .int .i64 (S.regs y).kind, .int .i64 (S.regs y).plane, .int .i64 (S.regs y).step, .slice ya (S.regs y).ways.length yc, .int .i64 (S.regs y).weight]] (by simp [Act.eval]) (dgood_calls x (S.regs y) _ _ ya _ yc _ HF4.out.dl HQ.out) ?_
  rintro e we ⟨rfl, hbe⟩
  rw [H4.out]
  refine ⟨_, rfl, hKc.out _ _ (fun h => absurd h (by decide)) ?_⟩
  clear hKc Kc
  simp only [Act.put, List.setIfInBounds_toArray, List.set_cons_succ, List.set_cons_zero]
  have HF5 : Hid _ := HF4.out.next hbe
  clear hbe HF4 HQ HS
  refine wpAnyY_one (i := 12) rfl (by kernel_rfl) (fun Kc hKc => ?_)
  go_simp
  refine hKc.out _ _ (fun _ h => h) ?_
  clear hKc Kc
  refine wpAnyY_done (by kernel_rfl) ?_ _
  cases n4
  · go_wp2
    go_ret
    exact sp_bad (err4 H1.out H2.out HT.out (HG.out.trans H4.out)) (by decide) HF5.out.dl.low
  have c0 := HF5.out.cell 0 (.int .i64 7) rfl
  have c1 := HF5.out.cell 1 (.int .i64 x) rfl
  have c2 := HF5.out.cell 2 (.int .i64 y) rfl
  have c3 := HF5.out.cell 3 (.int .i64 z) rfl
  go_wp2_with fail
  refine (ddoes_calls 7 x y z HF5.out.dl HW.out.2.2 HN.out H2.out HW.out.1 HW.out.2.1).mono ?_
  rintro e w3 ⟨rfl, hd3⟩
  have HD3 : Hid (∃ wv', Dl w0 w3 b c s (pastP S (7, x, y, z)) wv' gr gk gw R P) := hd3
  clear hd3 HF5 c0 c1 c2 c3
  go_wp2
  go_ret
  exact sp_good (err5 H1.out H2.out HT.out (HG.out.trans H4.out)) HD3.out
end
end Go.Proofs.Ytdbfcclmmpcijaa
