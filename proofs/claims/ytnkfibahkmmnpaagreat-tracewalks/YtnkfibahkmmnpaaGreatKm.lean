/-
  The walk of the document's step. The walks of the document's arrows and greatest.
-/
import Derived.Laws.AppendOwnNone
import Derived.Test.YtnkfibahkmmnpaaGreatVrF
import Derived.Test.YtnkfibahkmmnpaaGreatKab
import Derived.Test.YtnkfibahkmmnpaaGreatVdF
namespace Go.Proofs.YtnkfibahkmmnpaaGreat
open Go.RowKit

section
variable {w0 w : World} {b : Nat} {c : Cd} {s : Ls} {S : St} {wv : Nat → Value} {gr gk gw R P : Nat}
theorem rd6 {S : St} {x y z : Nat} (h : rdB S (6, x, y, z) = true) : (S.regs x).wr = true ∧ (S.regs y).wr = true := by
  simpa [rdB] using h
theorem ddoes_calls (o : Int) (x y z : Nat) (h : Dl w0 w b c s S wv gr gk gw R P) (ho : 1 ≤ o ∧ o ≤ 8) (hn : Nd o x y R P) (hr : rdB S (o, x, y, z) = true) (hw : Wt S) (hb : Bd S 999) :
    Calls Tryz.prog 68 #[.pointer (some ⟨b, 0, none⟩), .agg #[.int .i64 o, .int .i64 x, .int .i64 y, .int .i64 z]] w fun e w' => e = .returned (.tuple #[]) ∧ ∃ wv', Dl w0 w' b c s (pastP S (o, x, y, z)) wv' gr gk gw R P := by
  have : o = 1 ∨ o = 2 ∨ o = 3 ∨ o = 4 ∨ o = 5 ∨ o = 6 ∨ o = 7 ∨ o = 8 := by omega
  rcases this with rfl | rfl | rfl | rfl | rfl | rfl | rfl | rfl
  · exact ddoes1 x y z h (hn.a (by decide))
  · exact ddoes2 x y z h (hn.a (by decide))
  · by_cases hz : z = 0
    · subst hz; exact ddoes3z x y h (hn.a (by decide)) (hn.b3 rfl) (hw.pl y)
    · exact ddoes3n x y z h (hn.a (by decide)) hz
  · exact ddoes4 x y z h (hn.a (by decide)) (hb.reg x).1 (by have := (hb.reg x).2; omega)
  · exact ddoes5 x y z h (hn.a (by decide)) (hb.reg x).1 (by have := (hb.reg x).2; omega)
  · exact ddoes6 x y z h (hn.a (by decide)) (hn.b6 rfl) (rd6 hr).1 (rd6 hr).2 (by have := hb.ways x; omega)
  · exact ddoes7 x y z h (hn.p7 rfl).1 (hn.p7 rfl).2
  · exact ddoes8 x y z h (hn.p8 rfl) (hb.pl x).1 (by have := (hb.pl x).2; omega)
theorem wt_weigh {S : St} (h : Wt S) (n : Int) : Wt (weighP S n) :=
  ⟨fun r => by have := h.reg r; show (S.regs r).weight ≤ max (max S.top n) 1; omega, fun p => by have := h.pl p; show (S.pl p).2 ≤ max (max S.top n) 1; omega, h.reg0, h.pl0⟩
theorem wt_setR {S : St} (h : Wt S) (k : Nat) (x : Rg) (h1 : x.weight ≤ max S.top 1) (h0 : 0 ≤ x.weight) : Wt (setR S k x) :=
  ⟨fun r => by show (updR S.regs k x r).weight ≤ max S.top 1; unfold updR; split <;> first | exact h1 | exact h.reg r, h.pl, fun r => by show 0 ≤ (updR S.regs k x r).weight; unfold updR; split <;> first | exact h0 | exact h.reg0 r, h.pl0⟩
theorem wt_setR2 {S : St} (h : Wt S) (k : Nat) (x : Rg) (n : Int) (h1 : x.weight ≤ max (max S.top n) 1) (h0 : 0 ≤ x.weight) : Wt (weighP (setR S k x) n) :=
  ⟨fun r => by
    show (updR S.regs k x r).weight ≤ max (max S.top n) 1
    unfold updR; split
    · exact h1
    · have := h.reg r; omega, fun p => by have := h.pl p; show (S.pl p).2 ≤ max (max S.top n) 1; omega, fun r => by show 0 ≤ (updR S.regs k x r).weight; unfold updR; split <;> first | exact h0 | exact h.reg0 r, h.pl0⟩
theorem wt_past {S : St} (h : Wt S) (q : Qd) : Wt (pastP S q) := by
  unfold pastP
  split
  · exact wt_setR2 h _ _ _ (by show (0 : Int) ≤ _; omega) (Int.le_refl _)
  split
  · exact wt_setR2 h _ _ _ (by show (1 : Int) ≤ max (max S.top 1) 1; omega) (by show (0 : Int) ≤ 1; omega)
  split
  · refine wt_setR2 h _ _ _ ?_ ?_
    · show (loadB S q.2.2.1 q.2.2.2).weight ≤ max (max S.top (loadB S q.2.2.1 q.2.2.2).weight) 1; omega
    · show 0 ≤ (loadB S q.2.2.1 q.2.2.2).weight
      unfold loadB; split
      · exact h.pl0 _
      · exact Int.le_refl _
  split
  · refine wt_setR2 h _ _ _ ?_ ?_
    · show (S.regs q.2.1.toNat).weight + 1 ≤ max (max S.top ((S.regs q.2.1.toNat).weight + 1)) 1; omega
    · show 0 ≤ (S.regs q.2.1.toNat).weight + 1; have := h.reg0 q.2.1.toNat; omega
  split
  · refine wt_setR h _ _ ?_ ?_
    · show max (S.regs q.2.1.toNat).weight (S.regs q.2.2.1.toNat).weight ≤ _; have := h.reg q.2.1.toNat; have := h.reg q.2.2.1.toNat; omega
    · show 0 ≤ max (S.regs q.2.1.toNat).weight (S.regs q.2.2.1.toNat).weight; have := h.reg0 q.2.1.toNat; omega
  split
  · refine ⟨h.reg, fun p => ?_, h.reg0, fun p => ?_⟩
    · show (updP S.pl q.2.1.toNat (true, (S.regs q.2.2.1.toNat).weight) p).2 ≤ max S.top 1; unfold updP; split
      · exact h.reg _
      · exact h.pl p
    · show 0 ≤ (updP S.pl q.2.1.toNat (true, (S.regs q.2.2.1.toNat).weight) p).2; unfold updP; split
      · exact h.reg0 _
      · exact h.pl0 p
  · exact wt_weigh h _
theorem wt_start : Wt (st0 0) := ⟨fun _ => by show (0 : Int) ≤ max 0 1; omega, fun _ => by show (0 : Int) ≤ max 0 1; omega, fun _ => Int.le_refl _, fun _ => Int.le_refl _⟩
theorem err1 {q : Qd} (h : namB c q = false) : errB c S q = 162 := by rw [errB, if_pos h]
theorem err2 {q : Qd} (h : namB c q = true) (h2 : rdB S q = false) : errB c S q = 163 := by rw [errB, if_neg (by rw [h]; decide), if_pos h2]
theorem err3 {q : Qd} (h : namB c q = true) (h2 : rdB S q = true) (h3 : twB S q = true) : errB c S q = 164 := by rw [errB, if_neg (by rw [h]; decide), if_neg (by rw [h2]; decide), if_pos h3]
theorem err4 {q : Qd} (h : namB c q = true) (h2 : rdB S q = true) (h3 : twB S q = false) (h4 : gdB c S q = false) : errB c S q = 161 := by rw [errB, if_neg (by rw [h]; decide), if_neg (by rw [h2]; decide), if_neg (by rw [h3]; decide), if_pos h4]
theorem err5 {q : Qd} (h : namB c q = true) (h2 : rdB S q = true) (h3 : twB S q = false) (h4 : gdB c S q = true) : errB c S q = 0 := by rw [errB, if_neg (by rw [h]; decide), if_neg (by rw [h2]; decide), if_neg (by rw [h3]; decide), if_neg (by rw [h4]; decide)]
/-- The look, and the instruction's box. -/
structure Sf (w0 wd : World) (b : Nat) (c : Cd) (s : Ls) (S : St) (wv : Nat → Value) (gr gk gw R P gb : Nat) (I : Array Value) : Prop where
  dl : Dl w0 wd b c s S wv gr gk gw R P
  b3 : wd.heap[gb]? = some (.cells I 65 (0, 0))
theorem Sf.next {w2 : World} {gb : Nat} {I : Array Value} (h : Sf w0 w b c s S wv gr gk gw R P gb I) (hb : Below w.heap.size w w2) : Sf w0 w2 b c s S wv gr gk gw R P gb I := ⟨h.dl.next hb, row_next h.b3 hb⟩
theorem Sf.cell {gb : Nat} {I : Array Value} (h : Sf w0 w b c s S wv gr gk gw R P gb I) (i : Nat) (v : Value) (hv : I[i]? = some v) : w.cell? ⟨gb, i, none⟩ = some v := cell_block h.b3 i v hv
/-- What step leaves. -/
def StepPost (w0 w' : World) (b : Nat) (c : Cd) (s : Ls) (S : St) (gr gk gw R P : Nat) (q : Qd) : Prop :=
  (errB c S q = 0 → ∃ wv', Dl w0 w' b c s (pastP S q) wv' gr gk gw R P) ∧ Below w0.heap.size w0 w'
theorem sp_bad {q : Qd} {e : Int} (he : errB c S q = e) (hne : e ≠ 0) (hb : Below w0.heap.size w0 w) : Ending.returned (.int .i64 e) = .returned (.int .i64 (errB c S q)) ∧ StepPost w0 w b c s S gr gk gw R P q :=
  ⟨by rw [he], fun h => absurd (he.symm.trans h) hne, hb⟩
theorem sp_good {q : Qd} (he : errB c S q = 0) (h : ∃ wv', Dl w0 w b c s (pastP S q) wv' gr gk gw R P) : Ending.returned (.int .i64 0) = .returned (.int .i64 (errB c S q)) ∧ StepPost w0 w b c s S gr gk gw R P q :=
  ⟨by rw [he], fun _ => h, by obtain ⟨_, h⟩ := h; exact h.low⟩
set_option maxRecDepth 10000 in
set_option maxHeartbeats 1000000 in
theorem dstep_calls (o : Int) (x y z : Nat) (h : Dl w0 w b c s S wv gr gk gw R P) (ho : 1 ≤ o ∧ o ≤ 8) (hR : c.regs = R) (hP : c.planes = P) (hw : Wt S) (hb : Bd S 999) :
    Calls Tryz.prog 34 #[.pointer (some ⟨b, 0, none⟩), .agg #[.int .i64 o, .int .i64 x, .int .i64 y, .int .i64 z]] w fun e w' => e = .returned (.int .i64 (errB c S (o, x, y, z))) ∧ StepPost w0 w' b c s S gr gk gw R P (o, x, y, z) := by
  have HW : Hid (Wt S ∧ Bd S 999 ∧ (1 ≤ o ∧ o ≤ 8)) := ⟨hw, hb, ho⟩
  have HRP : Hid (c.regs = R ∧ c.planes = P) := ⟨hR, hP⟩
  have HF : Hid (Sf w0 (w.alloc (.cells #[.int .i64 o, .int .i64 x, .int .i64 y, .int .i64 z] 65)) b c s S wv gr gk gw R P w.heap.size #[.int .i64 o, .int .i64 x, .int .i64 y, .int .i64 z]) := ⟨h.alloc _, heap_alloc_new _ _⟩
  clear h hw hb ho hR hP
  obtain ⟨n1, h1⟩ : ∃ r, namB c (o, (x : Int), (y : Int), (z : Int)) = r := ⟨_, rfl⟩
  have H1 : Hid (namB c (o, (x : Int), (y : Int), (z : Int)) = n1) := h1
  clear h1
  go_enter Tryz.func34, Tryz.ntmps34
  go_wp2_with fail
  refine (dnamed_calls o x y z HF.out.dl HW.out.2.2 (by omega) (by omega)).mono ?_
  rintro e w1 ⟨rfl, hb⟩
  rw [H1.out]
  have HF1 : Hid _ := HF.out.next hb
  clear hb HF
  generalize w.heap.size = gb at *
  cases n1
  · go_wp2
    go_ret
    exact sp_bad (err1 H1.out) (by decide) HF1.out.dl.low
  have HN : Hid (Nd o x y R P) := nd_of HRP.out.1 HRP.out.2 HW.out.2.2.1 HW.out.2.2.2 H1.out
  obtain ⟨n2, h2⟩ : ∃ r, rdB S (o, (x : Int), (y : Int), (z : Int)) = r := ⟨_, rfl⟩
  have H2 : Hid (rdB S (o, (x : Int), (y : Int), (z : Int)) = n2) := h2
  clear h2
  have c0 := HF1.out.cell 0 (.int .i64 o) rfl
  have c1 := HF1.out.cell 1 (.int .i64 x) rfl
  have c2 := HF1.out.cell 2 (.int .i64 y) rfl
  have c3 := HF1.out.cell 3 (.int .i64 z) rfl
  go_wp2_with fail
  refine (dreads_calls o x y z HF1.out.dl HW.out.2.2 HN.out).mono ?_
  rintro e w2 ⟨rfl, hb⟩
  rw [H2.out]
  have HF2 : Hid _ := HF1.out.next hb
  clear hb HF1 c0 c1 c2 c3
  cases n2
  · go_wp2
    go_ret
    exact sp_bad (err2 H1.out H2.out) (by decide) HF2.out.dl.low
  have c0 := HF2.out.cell 0 (.int .i64 o) rfl
  have c1 := HF2.out.cell 1 (.int .i64 x) rfl
  have c2 := HF2.out.cell 2 (.int .i64 y) rfl
  have c3 := HF2.out.cell 3 (.int .i64 z) rfl
  by_cases h7 : o = 7
  rotate_left
  · have hd : (o == 7) = false := by simp [h7]
    have HE : Hid (errB c S (o, (x : Int), (y : Int), (z : Int)) = 0) := err5 H1.out H2.out (by simp [twB, h7]) (by simp [gdB, h7])
    clear h7
    go_wp2_with fail
    refine (ddoes_calls o x y z HF2.out.dl HW.out.2.2 HN.out H2.out HW.out.1 HW.out.2.1).mono ?_
    rintro e w3 ⟨rfl, hd3⟩
    have HD3 : Hid (∃ wv', Dl w0 w3 b c s (pastP S (o, x, y, z)) wv' gr gk gw R P) := hd3
    clear hd3 HF2 c0 c1 c2 c3
    go_wp2
    go_ret
    exact sp_good HE.out HD3.out
  subst h7
  have HT : Hid (twB S (7, (x : Int), (y : Int), (z : Int)) = (S.pl x).1) := by show _ = _; simp [twB]
  have HG : Hid (gdB c S (7, (x : Int), (y : Int), (z : Int)) = goodB x (S.regs y) c.arrows) := by show _ = _; simp [gdB, goodB]
  have hxP := (HN.out.p7 rfl).1
  have hyR := (HN.out.p7 rfl).2
  have k11 := HF2.out.dl.cell 11 (v := .slice (some ⟨gk, 0, none⟩) P P) rfl
  have p0 := HF2.out.dl.kp x hxP
  obtain ⟨n3, h3⟩ : ∃ r, (S.pl x).1 = r := ⟨_, rfl⟩
  rw [h3] at p0 HT
  clear h3
  cases n3
  rotate_left
  · go_wp2_with fail
    go_quiet (fail)
    have HL : Hid (Below w0.heap.size w0 (w2.drewN nq)) := below_drewN HF2.out.dl.low nq
    generalize w2.drewN nq = wz at *
    clear p0 k11 c0 c1 c2 c3
    go_wp2
    go_ret
    exact sp_bad (err3 H1.out H2.out HT.out) (by decide) HL.out
  go_wp2_with fail
  go_quiet (fail)
  have HF3 : Hid _ := HF2.out.next (below_drewN (Below.refl _ _) nq)
  clear p0 k11 c0 c1 c2 c3 HF2
  generalize w2.drewN nq = wz at *
  go_upto_region 10 with (fail)
  obtain ⟨ya, yc, hya⟩ := owned_shape (HF3.out.dl.rows y hyR)
  have HFd := HF3.out.next (below_drewN (Below.refl _ _) 1)
  have HF4 : Hid (Sf w0 wz.drew b c s S wv gr gk gw R P gb #[.int .i64 7, .int .i64 x, .int .i64 y, .int .i64 z]) := HFd
  have HQ : Hid (QdsAt wz.drew ya (S.regs y).ways.length (S.regs y).ways) := by
    have := HFd.dl.rows y hyR
    rw [hya] at this
    exact qds_owned this
  have HS : Hid (wz.drew.cell? ⟨b, 10, none⟩ = some (.slice (some ⟨gr, 0, none⟩) R R) ∧ wz.drew.cell? ⟨gb, 1, none⟩ = some (.int .i64 x) ∧ wz.drew.cell? ⟨gb, 2, none⟩ = some (.int .i64 y) ∧ wz.drew.cell? ⟨gr, y * 7, none⟩ = some (.bool (S.regs y).wr) ∧ wz.drew.cell? ⟨gr, y * 7 + 1, none⟩ = some (.bool ((S.regs y).wr && !(S.regs y).met)) ∧ wz.drew.cell? ⟨gr, y * 7 + 2, none⟩ = some (.int .i64 (S.regs y).kind) ∧ wz.drew.cell? ⟨gr, y * 7 + 3, none⟩ = some (.int .i64 (S.regs y).plane) ∧ wz.drew.cell? ⟨gr, y * 7 + 4, none⟩ = some (.int .i64 (S.regs y).step) ∧ wz.drew.cell? ⟨gr, y * 7 + 5, none⟩ = some (.slice ya (S.regs y).ways.length yc) ∧ wz.drew.cell? ⟨gr, y * 7 + 6, none⟩ = some (.int .i64 (S.regs y).weight)) :=
    ⟨HFd.dl.cell 10 rfl, HFd.cell 1 _ rfl, HFd.cell 2 _ rfl, HFd.dl.reg y 0 hyR (by omega) rfl, HFd.dl.reg y 1 hyR (by omega) rfl, HFd.dl.reg y 2 hyR (by omega) rfl, HFd.dl.reg y 3 hyR (by omega) rfl, HFd.dl.reg y 4 hyR (by omega) rfl, HFd.dl.reg y 5 hyR (by omega) hya, HFd.dl.reg y 6 hyR (by omega) rfl⟩
  clear HFd HF3 hya
  obtain ⟨n4, h4⟩ : ∃ r, goodB x (S.regs y) c.arrows = r := ⟨_, rfl⟩
  have H4 : Hid (goodB x (S.regs y) c.arrows = n4) := h4
  clear h4
  refine wp_region_Y (fun j => [11].contains j) (fun W : World => W.cell? ⟨b, 10, none⟩ = some (.slice (some ⟨gr, 0, none⟩) R R) ∧ W.cell? ⟨gb, 1, none⟩ = some (.int .i64 x) ∧ W.cell? ⟨gb, 2, none⟩ = some (.int .i64 y) ∧ W.cell? ⟨gr, y * 7, none⟩ = some (.bool (S.regs y).wr) ∧ W.cell? ⟨gr, y * 7 + 1, none⟩ = some (.bool ((S.regs y).wr && !(S.regs y).met)) ∧ W.cell? ⟨gr, y * 7 + 2, none⟩ = some (.int .i64 (S.regs y).kind) ∧ W.cell? ⟨gr, y * 7 + 3, none⟩ = some (.int .i64 (S.regs y).plane) ∧ W.cell? ⟨gr, y * 7 + 4, none⟩ = some (.int .i64 (S.regs y).step) ∧ W.cell? ⟨gr, y * 7 + 5, none⟩ = some (.slice ya (S.regs y).ways.length yc) ∧ W.cell? ⟨gr, y * 7 + 6, none⟩ = some (.int .i64 (S.regs y).weight)) (by kernel_rfl) ?_
  refine wpAnyY_pure (i := 0) 27 (v := .pointer (some ⟨b, 0, none⟩)) rfl rfl (by kernel_rfl) (by kernel_rfl) (by kernel_rfl) (fun _ _ _ h => h) (Or.inl ⟨by rfl, by (intro W _; go_simp)⟩) ?_
  simp only [Act.put, List.setIfInBounds_toArray, List.set_cons_succ, List.set_cons_zero]
  refine wpAnyY_pure (i := 1) 28 (v := .pointer (some ⟨gb, 1, none⟩)) rfl rfl (by kernel_rfl) (by kernel_rfl) (by kernel_rfl) (fun _ _ _ h => h) (Or.inl ⟨by rfl, by (intro W _; go_simp)⟩) ?_
  simp only [Act.put, List.setIfInBounds_toArray, List.set_cons_succ, List.set_cons_zero]
  refine wpAnyY_takeD (i := 2) 29 (v := .int .i64 x) rfl rfl (by kernel_rfl) (by kernel_rfl) (late_of (by kernel_rfl)) (by kernel_rfl) (by kernel_rfl) (fun _ _ _ h => h) HS.out (Or.inl ⟨by rfl, by (intro W hW; obtain ⟨e0, e1, e2, e3, e4, e5, e6, e7, e8, e9⟩ := hW; go_simp)⟩) ?_
  simp only [Act.put, List.setIfInBounds_toArray, List.set_cons_succ, List.set_cons_zero]
  refine wpAnyY_pure (i := 3) 30 (v := .pointer (some ⟨b, 0, none⟩)) rfl rfl (by kernel_rfl) (by kernel_rfl) (by kernel_rfl) (fun _ _ _ h => h) (Or.inl ⟨by rfl, by (intro W _; go_simp)⟩) ?_
  simp only [Act.put, List.setIfInBounds_toArray, List.set_cons_succ, List.set_cons_zero]
  refine wpAnyY_pure (i := 4) 31 (v := .pointer (some ⟨b, 0, none⟩)) rfl rfl (by kernel_rfl) (by kernel_rfl) (by kernel_rfl) (fun _ _ _ h => h) (Or.inl ⟨by rfl, by (intro W _; go_simp)⟩) ?_
  simp only [Act.put, List.setIfInBounds_toArray, List.set_cons_succ, List.set_cons_zero]
  refine wpAnyY_pure (i := 5) 32 (v := .pointer (some ⟨b, 10, none⟩)) rfl rfl (by kernel_rfl) (by kernel_rfl) (by kernel_rfl) (fun _ _ _ h => h) (Or.inl ⟨by rfl, by (intro W _; go_simp)⟩) ?_
  simp only [Act.put, List.setIfInBounds_toArray, List.set_cons_succ, List.set_cons_zero]
  refine wpAnyY_takeD (i := 6) 33 (v := .slice (some ⟨gr, 0, none⟩) R R) rfl rfl (by kernel_rfl) (by kernel_rfl) (late_of (by kernel_rfl)) (by kernel_rfl) (by kernel_rfl) (fun _ _ _ h => h) HS.out (Or.inl ⟨by rfl, by (intro W hW; obtain ⟨e0, e1, e2, e3, e4, e5, e6, e7, e8, e9⟩ := hW; go_simp)⟩) ?_
  simp only [Act.put, List.setIfInBounds_toArray, List.set_cons_succ, List.set_cons_zero]
  refine wpAnyY_pure (i := 7) 34 (v := .pointer (some ⟨gb, 2, none⟩)) rfl rfl (by kernel_rfl) (by kernel_rfl) (by kernel_rfl) (fun _ _ _ h => h) (Or.inl ⟨by rfl, by (intro W _; go_simp)⟩) ?_
  simp only [Act.put, List.setIfInBounds_toArray, List.set_cons_succ, List.set_cons_zero]
  refine wpAnyY_takeD (i := 8) 35 (v := .int .i64 y) rfl rfl (by kernel_rfl) (by kernel_rfl) (late_of (by kernel_rfl)) (by kernel_rfl) (by kernel_rfl) (fun _ _ _ h => h) HS.out (Or.inl ⟨by rfl, by (intro W hW; obtain ⟨e0, e1, e2, e3, e4, e5, e6, e7, e8, e9⟩ := hW; go_simp)⟩) ?_
  simp only [Act.put, List.setIfInBounds_toArray, List.set_cons_succ, List.set_cons_zero]
  refine wpAnyY_pure (i := 9) 36 (v := .pointer (some ⟨gr, y * 7, none⟩)) rfl rfl (by kernel_rfl) (by kernel_rfl) (by kernel_rfl) (fun _ _ _ h => h) (Or.inl ⟨by rfl, by (intro W _; go_simp)⟩) ?_
  simp only [Act.put, List.setIfInBounds_toArray, List.set_cons_succ, List.set_cons_zero]
  refine wpAnyY_takeD (i := 10) 37 (v := .agg #[.bool (S.regs y).wr, .bool ((S.regs y).wr && !(S.regs y).met), .int .i64 (S.regs y).kind, .int .i64 (S.regs y).plane, .int .i64 (S.regs y).step, .slice ya (S.regs y).ways.length yc, .int .i64 (S.regs y).weight]) rfl rfl (by kernel_rfl) (by kernel_rfl) (late_of (by kernel_rfl)) (by kernel_rfl) (by kernel_rfl) (fun _ _ _ h => h) HS.out (Or.inl ⟨by rfl, by (intro W hW; obtain ⟨e0, e1, e2, e3, e4, e5, e6, e7, e8, e9⟩ := hW; go_simp)⟩) ?_
  simp only [Act.put, List.setIfInBounds_toArray, List.set_cons_succ, List.set_cons_zero]
  refine wpAnyY_one (i := 11) rfl (by kernel_rfl) (fun Kc hKc => ?_)
  refine step_fnD 38 rfl (by rfl) 67 _ _ rfl Tryz.f67 Tryz.func67 (by kernel_rfl) (by kernel_rfl) #[.pointer (some ⟨b, 0, none⟩), .int .i64 x, .agg #[.bool (S.regs y).wr, .bool ((S.regs y).wr && !(S.regs y).met), .int .i64 (S.regs y).kind, .int .i64 (S.regs y).plane, .int .i64 (S.regs y).step, .slice ya (S.regs y).ways.length yc, .int .i64 (S.regs y).weight]] (by simp [Act.eval]) (dgood_calls x (S.regs y) _ _ ya _ yc _ HF4.out.dl HQ.out) ?_
  rintro e we ⟨rfl, hbe⟩
  rw [H4.out]
  refine ⟨_, rfl, hKc.out _ _ (fun h => absurd h (by decide)) ?_⟩
  clear hKc Kc
  simp only [Act.put, List.setIfInBounds_toArray, List.set_cons_succ, List.set_cons_zero]
  have HF5 : Hid _ := HF4.out.next hbe
  clear hbe HF4 HQ HS
  refine wpAnyY_one (i := 12) rfl (by kernel_rfl) (fun Kc hKc => ?_)
  go_simp
  refine hKc.out _ _ (fun _ h => h) ?_
  clear hKc Kc
  refine wpAnyY_done (by kernel_rfl) ?_ _
  cases n4
  · go_wp2
    go_ret
    exact sp_bad (err4 H1.out H2.out HT.out (HG.out.trans H4.out)) (by decide) HF5.out.dl.low
  have c0 := HF5.out.cell 0 (.int .i64 7) rfl
  have c1 := HF5.out.cell 1 (.int .i64 x) rfl
  have c2 := HF5.out.cell 2 (.int .i64 y) rfl
  have c3 := HF5.out.cell 3 (.int .i64 z) rfl
  go_wp2_with fail
  refine (ddoes_calls 7 x y z HF5.out.dl HW.out.2.2 HN.out H2.out HW.out.1 HW.out.2.1).mono ?_
  rintro e w3 ⟨rfl, hd3⟩
  have HD3 : Hid (∃ wv', Dl w0 w3 b c s (pastP S (7, x, y, z)) wv' gr gk gw R P) := hd3
  clear hd3 HF5 c0 c1 c2 c3
  go_wp2
  go_ret
  exact sp_good (err5 H1.out H2.out HT.out (HG.out.trans H4.out)) HD3.out
end
end Go.Proofs.YtnkfibahkmmnpaaGreat
namespace Go.Proofs.YtnkfibahkmmnpaaGreat
open Go.RowKit

theorem seen_snoc {l : List Qd} {k : Nat} {q : Qd} (p b : Int) (h : l[k]? = some q) : seenB (l.take (k + 1)) p b = (seenB (l.take k) p b || (q.1 == p && q.2.1 == b)) := by
  unfold seenB
  rw [any_snoc h]
theorem drop_cons {l : List Qd} {k : Nat} {a : Qd} (h : l[k]? = some a) : l.drop k = a :: l.drop (k + 1) := by
  have hk : k < l.length := (List.getElem?_eq_some_iff.1 h).1
  rw [List.drop_eq_getElem_cons hk]
  rw [List.getElem?_eq_getElem hk] at h
  cases h; rfl
theorem seen_hit {l : List Qd} {k j : Nat} {q : Qd} (p b : Int) (h : l[j]? = some q) (hj : j < k) (h1 : (q.1 == p && q.2.1 == b) = true) : seenB (l.take k) p b = true := any_hit h hj h1
set_option maxRecDepth 10000 in
set_option maxHeartbeats 2000000 in
theorem darrows_calls (c : Cd) (s : Ls) (w : World) (h : CdAt w c s) :
    Calls Tryz.prog 33 #[.agg (cdCells c s)] w fun e w' => e = .returned (.bool (arsB c)) ∧ Below w.heap.size w w' := by
  have HQ : Hid (QdsAt w s.r.a s.r.n c.arrows) := h.arrows
  have HN : Hid (c.arrows.length = s.r.n) := h.arrows.length
  have hm := h.arrows.short
  unfold maxLen at hm
  clear h
  have H0 : Hid (Bo w (w.alloc (.cells #[.int .i64 c.letters, .int .i64 c.planes, .int .i64 c.regs, .int .i64 c.lo, .int .i64 c.hi, .int .i64 c.most, .slice s.t.a s.t.n s.t.c, .slice s.k.a s.k.n s.k.c, .slice s.i.a s.i.n s.i.c, .slice s.r.a s.r.n s.r.c] 26)) #[.int .i64 c.letters, .int .i64 c.planes, .int .i64 c.regs, .int .i64 c.lo, .int .i64 c.hi, .int .i64 c.most, .slice s.t.a s.t.n s.t.c, .slice s.k.a s.k.n s.k.c, .slice s.i.a s.i.n s.i.c, .slice s.r.a s.r.n s.r.c]) := ⟨below_new _, heap_alloc_new _ _⟩
  rw [show cdCells c s = #[.int .i64 c.letters, .int .i64 c.planes, .int .i64 c.regs, .int .i64 c.lo, .int .i64 c.hi, .int .i64 c.most, .slice s.t.a s.t.n s.t.c, .slice s.k.a s.k.n s.k.c, .slice s.i.a s.i.n s.i.c, .slice s.r.a s.r.n s.r.c] from rfl]
  go_enter Tryz.func33, Tryz.ntmps33
  go_wp2
  go_loopw [3, 4, 5] (fun i _ _ wr => ∃ k : Nat, k ≤ s.r.n ∧ i = .int .i64 k ∧ arsB c = arGo c.planes (c.arrows.take k) (c.arrows.drop k) ∧ Bo w wr #[.int .i64 c.letters, .int .i64 c.planes, .int .i64 c.regs, .int .i64 c.lo, .int .i64 c.hi, .int .i64 c.most, .slice s.t.a s.t.n s.t.c, .slice s.k.a s.k.n s.k.c, .slice s.i.a s.i.n s.i.c, .slice s.r.a s.r.n s.r.c]) (fun i _ _ _ => s.r.n - (intOf i).toNat)
  case atStart => exact ⟨0, Nat.zero_le _, rfl, rfl, H0.out⟩
  case round =>
    obtain ⟨k, hk, rfl, hall, hbx⟩ := hrel
    have HA : Hid (arsB c = arGo c.planes (c.arrows.take k) (c.arrows.drop k)) := hall
    have HR : Hid (Bo w wr #[.int .i64 c.letters, .int .i64 c.planes, .int .i64 c.regs, .int .i64 c.lo, .int .i64 c.hi, .int .i64 c.most, .slice s.t.a s.t.n s.t.c, .slice s.k.a s.k.n s.k.c, .slice s.i.a s.i.n s.i.c, .slice s.r.a s.r.n s.r.c]) := hbx
    clear hall hbx H0
    have p9 := HR.out.cell 9 (v := .slice s.r.a s.r.n s.r.c) rfl
    by_cases hlt : k < s.r.n
    · obtain ⟨a, ha⟩ := get_lt (l := c.arrows) (k := k) (by rw [HN.out]; exact hlt)
      obtain ⟨bb, off, hra, hcs⟩ := (HQ.out.below HR.out.low).cells (by omega)
      obtain ⟨c1, c2, c3, c4⟩ := hcs k a ha
      have HAk : Hid (c.arrows[k]? = some a) := ha
      have HD : Hid (arsB c = arGo c.planes (c.arrows.take k) (a :: c.arrows.drop (k + 1))) := by show _ = _; rw [HA.out, drop_cons ha]
      clear ha HA hcs
      obtain ⟨x, y, z, u⟩ := a
      simp only at c1 c2 c3 c4
      have HRA : Hid (s.r.a = some ⟨bb, off, none⟩) := hra
      rw [hra] at p9
      clear hra
      go_upto_region 5 with (fail)
      have HR1 : Hid (Bo w (wr.alloc (.cells #[.int .i64 x, .int .i64 y, .int .i64 z, .int .i64 u] 79)) #[.int .i64 c.letters, .int .i64 c.planes, .int .i64 c.regs, .int .i64 c.lo, .int .i64 c.hi, .int .i64 c.most, .slice s.t.a s.t.n s.t.c, .slice s.k.a s.k.n s.k.c, .slice s.i.a s.i.n s.i.c, .slice s.r.a s.r.n s.r.c]) := HR.out.next (below_new _)
      have HB : Hid ((wr.alloc (.cells #[.int .i64 x, .int .i64 y, .int .i64 z, .int .i64 u] 79)).heap[wr.heap.size]? = some (.cells #[.int .i64 x, .int .i64 y, .int .i64 z, .int .i64 u] 79 (0, 0))) := heap_alloc_new _ _
      clear c1 c2 c3 c4 p9 HR
      generalize wr.alloc (.cells #[.int .i64 x, .int .i64 y, .int .i64 z, .int .i64 u] 79) = wd at *
      generalize wr.heap.size = gx at *
      clear wr
      have p1 := HR1.out.cell 1 (v := .int .i64 c.planes) rfl
      have b0 := cell_block HB.out 0 (.int .i64 x) rfl
      have b1 := cell_block HB.out 1 (.int .i64 y) rfl
      have b2 := cell_block HB.out 2 (.int .i64 z) rfl
      have b3 := cell_block HB.out 3 (.int .i64 u) rfl
      obtain ⟨r1, h1⟩ : ∃ r, arwB c.planes (x, y, z, u) = r := ⟨_, rfl⟩
      cases r1
      · have HF : Hid (arsB c = false) := by show _ = _; rw [HD.out]; exact ar_false (.inl h1)
        have HNo : Hid (arwB c.planes (x, y, z, u) = false) := h1
        clear h1
        go_wp2
        all_goals first
          | (go_ret; exact ⟨ret_bool (by rw [HF.out]), HR1.out.low⟩)
          | (exfalso; have h9 := HNo.out; simp [arwB, inB] at h9; omega)
      · have hbd := arw_bd h1
        have HY : Hid (arwB c.planes (x, y, z, u) = true) := h1
        clear h1
        obtain ⟨⟨e1, e2⟩, ⟨e3, e4⟩, ⟨e5, e6⟩, ⟨e7, e8⟩⟩ := hbd
        simp only at e1 e2 e3 e4 e5 e6 e7 e8
        have d1 : decide (x < 1) = false := by simp; omega
        have d2 : decide (c.planes ≤ x) = false := by simp; omega
        have d3 : decide (y < 0) = false := by simp; omega
        have d4 : decide (16 ≤ y) = false := by simp; omega
        have d5 : decide (z < 0) = false := by simp; omega
        have d6 : decide (c.planes ≤ z) = false := by simp; omega
        have d7 : decide (u < 1) = false := by simp; omega
        have d8 : decide (3 < u) = false := by simp; omega
        clear e1 e2 e3 e4 e5 e6 e7 e8
        go_wp2
        clear p1 b0 b1 b2 b3
        go_loopw [5] (fun i wr => ∃ j : Nat, j ≤ k ∧ i = .int .i64 j ∧ seenB (c.arrows.take j) x y = false ∧ Bo w wr #[.int .i64 c.letters, .int .i64 c.planes, .int .i64 c.regs, .int .i64 c.lo, .int .i64 c.hi, .int .i64 c.most, .slice s.t.a s.t.n s.t.c, .slice s.k.a s.k.n s.k.c, .slice s.i.a s.i.n s.i.c, .slice s.r.a s.r.n s.r.c] ∧ wr.heap[gx]? = some (.cells #[.int .i64 x, .int .i64 y, .int .i64 z, .int .i64 u] 79 (0, 0))) (fun i _ => k - (intOf i).toNat)
        case atStart => exact ⟨0, Nat.zero_le _, rfl, rfl, HR1.out, HB.out⟩
        case round =>
          obtain ⟨j, hj, rfl, hno, hbo, hbx⟩ := hrel
          have HS : Hid (seenB (c.arrows.take j) x y = false) := hno
          have HR2 : Hid (Bo w wr #[.int .i64 c.letters, .int .i64 c.planes, .int .i64 c.regs, .int .i64 c.lo, .int .i64 c.hi, .int .i64 c.most, .slice s.t.a s.t.n s.t.c, .slice s.k.a s.k.n s.k.c, .slice s.i.a s.i.n s.i.c, .slice s.r.a s.r.n s.r.c]) := hbo
          have HB2 : Hid (wr.heap[gx]? = some (.cells #[.int .i64 x, .int .i64 y, .int .i64 z, .int .i64 u] 79 (0, 0))) := hbx
          clear hno hbo hbx HR1 HB
          by_cases hlt2 : j < k
          · obtain ⟨q, hq⟩ := get_lt (l := c.arrows) (k := j) (by rw [HN.out]; omega)
            obtain ⟨bc, ofc, hrc, hcs⟩ := (HQ.out.below HR2.out.low).cells (by omega)
            obtain ⟨c1, c2, c3, c4⟩ := hcs j q hq
            have HQj : Hid (c.arrows[j]? = some q) := hq
            clear hcs hq c3 c4
            obtain ⟨q0, q1, q2, q3⟩ := q
            simp only at c1 c2
            have p9 := HR2.out.cell 9 (v := .slice s.r.a s.r.n s.r.c) rfl
            rw [hrc] at p9
            clear hrc
            have b0 := cell_block HB2.out 0 (.int .i64 x) rfl
            have b1 := cell_block HB2.out 1 (.int .i64 y) rfl
            have hjn : j < s.r.n := by omega
            obtain ⟨f1, g1⟩ : ∃ r, (q0 == x) = r := ⟨_, rfl⟩
            obtain ⟨f2, g2⟩ : ∃ r, (q1 == y) = r := ⟨_, rfl⟩
            have HSn : Hid (seenB (c.arrows.take (j + 1)) x y = (f1 && f2)) := by show _ = _; rw [seen_snoc x y HQj.out, HS.out, ← g1, ← g2]; rfl
            have HH : Hid ((q0 == x && q1 == y) = (f1 && f2)) := by show _ = _; rw [g1, g2]
            cases f1
            · go_wp2_with fail
              go_quiet (fail)
              have HR3 : Hid (Bo w (wr.drewN nq) #[.int .i64 c.letters, .int .i64 c.planes, .int .i64 c.regs, .int .i64 c.lo, .int .i64 c.hi, .int .i64 c.most, .slice s.t.a s.t.n s.t.c, .slice s.k.a s.k.n s.k.c, .slice s.i.a s.i.n s.i.c, .slice s.r.a s.r.n s.r.c] ∧ (wr.drewN nq).heap[gx]? = some (.cells #[.int .i64 x, .int .i64 y, .int .i64 z, .int .i64 u] 79 (0, 0))) := ⟨HR2.out.next (below_drewN (Below.refl _ _) nq), row_next HB2.out (below_drewN (Below.refl _ _) nq)⟩
              clear c1 c2 p9 b0 b1
              generalize wr.drewN nq = wz at *
              go_wp2
              go_roundw
              case rel => exact ⟨j + 1, by omega, by go_num, by rw [HSn.out]; rfl, HR3.out.1, HR3.out.2⟩
              case measure => simp [intOf]; omega
            · cases f2
              · go_wp2_with fail
                go_quiet (fail)
                have HR3 : Hid (Bo w (wr.drewN nq) #[.int .i64 c.letters, .int .i64 c.planes, .int .i64 c.regs, .int .i64 c.lo, .int .i64 c.hi, .int .i64 c.most, .slice s.t.a s.t.n s.t.c, .slice s.k.a s.k.n s.k.c, .slice s.i.a s.i.n s.i.c, .slice s.r.a s.r.n s.r.c] ∧ (wr.drewN nq).heap[gx]? = some (.cells #[.int .i64 x, .int .i64 y, .int .i64 z, .int .i64 u] 79 (0, 0))) := ⟨HR2.out.next (below_drewN (Below.refl _ _) nq), row_next HB2.out (below_drewN (Below.refl _ _) nq)⟩
                clear c1 c2 p9 b0 b1
                generalize wr.drewN nq = wz at *
                go_wp2
                go_roundw
                case rel => exact ⟨j + 1, by omega, by go_num, by rw [HSn.out]; rfl, HR3.out.1, HR3.out.2⟩
                case measure => simp [intOf]; omega
              · have HF : Hid (arsB c = false) := by show _ = _; rw [HD.out]; exact ar_false (.inr (seen_hit x y HQj.out hlt2 HH.out))
                go_wp2_with fail
                go_quiet (fail)
                have HL : Hid (Below w.heap.size w (wr.drewN nq)) := below_drewN HR2.out.low nq
                clear c1 c2 p9 b0 b1
                generalize wr.drewN nq = wz at *
                go_wp2
                go_ret
                exact ⟨ret_bool (by rw [HF.out]), HL.out⟩
          · obtain rfl : j = k := by omega
            have HT : Hid (arsB c = arGo c.planes (c.arrows.take (j + 1)) (c.arrows.drop (j + 1))) := by
              show _ = _
              rw [HD.out, ar_true HY.out HS.out, take_snoc HAk.out]
            go_wp2
            go_roundw
            case rel => exact ⟨j + 1, by omega, by go_num, HT.out, HR2.out⟩
            case measure => simp [intOf]; omega
    · obtain rfl : k = s.r.n := by omega
      have HF : Hid (arsB c = true) := by
        show _ = _
        rw [HA.out, List.drop_of_length_le (by rw [HN.out]; exact Nat.le_refl _)]; rfl
      go_wp2
      go_ret
      exact ⟨ret_bool (by rw [HF.out]), HR.out.low⟩

end Go.Proofs.YtnkfibahkmmnpaaGreat
