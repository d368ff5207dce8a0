/-
  What is handed in, opened; what a law keeps. The path that is told is the document's.
-/
import Derived.Test.YtnkfibahkmmnpaaGreatRows
import Derived.Test.YtnkfibahkmmnpaaGreatOpn
import Derived.Test.YtnkfibahkmmnpaaGreatVdK
import Derived.Test.YtnkfibahkmmnpaaGreatMeI
import Derived.Test.YtnkfibahkmmnpaaGreatKy
import Derived.Test.YtnkfibahkmmnpaaGreatKs
namespace Go.Proofs.YtnkfibahkmmnpaaGreat
open Go.RowKit Go.Deep

theorem ints_in {H : Type} {enc : TypeId × Value → H} {W : World} {v : Value} {d : DataW H} {p : List MemPlace} (h : DataW.Trod enc Tryz.prog W 0 (fun _ => true) true 22 v d p) :
    ∃ (s : Sl) (l : List Int), v.cells.toList = [.slice s.a s.n s.c] ∧ IntsAt W s.a s.n l ∧ SlIn s := by
  obtain ⟨fuel, hf⟩ := h
  exact open_ints hf
/-- The code's box, and the table. -/
structure Tw (w wr : World) (c : Cd) (s : Ls) (g gs P X Y : Nat) (sa : Sl) (f : Nat → Ct) (e : En) (st : Int) : Prop where
  bo : Bo w wr (cdCells c s)
  tb : Tb wr g gs P X Y sa f e st
theorem Tw.next {w wr w2 : World} {c : Cd} {s : Ls} {g gs P X Y : Nat} {sa : Sl} {f : Nat → Ct} {e : En} {st : Int} (h : Tw w wr c s g gs P X Y sa f e st) (hb : Below wr.heap.size wr w2) : Tw w w2 c s g gs P X Y sa f e st := ⟨h.bo.next hb, h.tb.next hb⟩
end Go.Proofs.YtnkfibahkmmnpaaGreat
namespace Go.Proofs.YtnkfibahkmmnpaaGreat
open Go.RowKit

theorem wlk_parts (c : Cd) (x y : List Int) : ∃ (sc I J : Int) (str : ByteArray) (e : Int), wlkF c x y = #[.int .i64 sc, .int .i64 I, .int .i64 J, .string str] ∧ wlkE c x y = e := by
  unfold wlkF
  split
  · exact ⟨_, _, _, _, _, rfl, rfl⟩
  · exact ⟨_, _, _, _, _, rfl, rfl⟩
set_option maxRecDepth 20000 in
set_option maxHeartbeats 8000000 in
theorem walks_walk (c : Cd) (s : Ls) (sx : Sl) (x : List Int) (sy : Sl) (y : List Int) (w : World) (hc : CdIn w c s) (hx : IntsAt w sx.a sx.n x) (_ : SlIn sx) (hy : IntsAt w sy.a sy.n y) (_ : SlIn sy) :
    Calls Tryz.prog 3 #[.agg (cdCells c s), .slice sx.a sx.n sx.c, .slice sy.a sy.n sy.c] w fun e w' => e = .returned (.bool true) ∧ Below w.heap.size w w' := by
  have HC : Hid (CdAt w c s ∧ IntsAt w sx.a sx.n x ∧ IntsAt w sy.a sy.n y) := ⟨hc.at', hx, hy⟩
  clear hc hx hy
  obtain ⟨xa, xn, xc⟩ := sx
  obtain ⟨ya, yn, yc⟩ := sy
  have H0 : Hid (Bo w (w.alloc (.cells (cdCells c s) 26)) (cdCells c s)) := ⟨below_new _, heap_alloc_new _ _⟩
  rw [show cdCells c s = #[.int .i64 c.letters, .int .i64 c.planes, .int .i64 c.regs, .int .i64 c.lo, .int .i64 c.hi, .int .i64 c.most, .slice s.t.a s.t.n s.t.c, .slice s.k.a s.k.n s.k.c, .slice s.i.a s.i.n s.i.c, .slice s.r.a s.r.n s.r.c] from rfl] at H0 ⊢
  go_enter Tryz.func3, Tryz.ntmps3
  have c0 := H0.out.cell 0 (v := .int .i64 c.letters) rfl
  have c1 := H0.out.cell 1 (v := .int .i64 c.planes) rfl
  have c2 := H0.out.cell 2 (v := .int .i64 c.regs) rfl
  have c3 := H0.out.cell 3 (v := .int .i64 c.lo) rfl
  have c4 := H0.out.cell 4 (v := .int .i64 c.hi) rfl
  have c5 := H0.out.cell 5 (v := .int .i64 c.most) rfl
  have c6 := H0.out.cell 6 (v := .slice s.t.a s.t.n s.t.c) rfl
  have c7 := H0.out.cell 7 (v := .slice s.k.a s.k.n s.k.c) rfl
  have c8 := H0.out.cell 8 (v := .slice s.i.a s.i.n s.i.c) rfl
  have c9 := H0.out.cell 9 (v := .slice s.r.a s.r.n s.r.c) rfl
  go_wp2_with fail
  refine (small_calls c s ⟨xa, xn, xc⟩ ⟨ya, yn, yc⟩ x y _ (HC.out.1.below H0.out.low) (HC.out.2.1.below H0.out.low) (HC.out.2.2.below H0.out.low)).mono ?_
  rintro e w1 ⟨⟨b, rfl⟩, hb1⟩
  have H1 : Hid (Bo w w1 #[.int .i64 c.letters, .int .i64 c.planes, .int .i64 c.regs, .int .i64 c.lo, .int .i64 c.hi, .int .i64 c.most, .slice s.t.a s.t.n s.t.c, .slice s.k.a s.k.n s.k.c, .slice s.i.a s.i.n s.i.c, .slice s.r.a s.r.n s.r.c]) := H0.out.next hb1
  clear hb1 H0 c0 c1 c2 c3 c4 c5 c6 c7 c8 c9
  cases b
  · go_wp2
    go_ret
    exact ⟨rfl, H1.out.low⟩
  go_wp2_with fail
  refine (awake_calls _).mono ?_
  rintro e w2 ⟨rfl, hb2⟩
  have H2 : Hid (Bo w w2 #[.int .i64 c.letters, .int .i64 c.planes, .int .i64 c.regs, .int .i64 c.lo, .int .i64 c.hi, .int .i64 c.most, .slice s.t.a s.t.n s.t.c, .slice s.k.a s.k.n s.k.c, .slice s.i.a s.i.n s.i.c, .slice s.r.a s.r.n s.r.c]) := H1.out.next hb2
  clear hb2 H1
  have c0 := H2.out.cell 0 (v := .int .i64 c.letters) rfl
  have c1 := H2.out.cell 1 (v := .int .i64 c.planes) rfl
  have c2 := H2.out.cell 2 (v := .int .i64 c.regs) rfl
  have c3 := H2.out.cell 3 (v := .int .i64 c.lo) rfl
  have c4 := H2.out.cell 4 (v := .int .i64 c.hi) rfl
  have c5 := H2.out.cell 5 (v := .int .i64 c.most) rfl
  have c6 := H2.out.cell 6 (v := .slice s.t.a s.t.n s.t.c) rfl
  have c7 := H2.out.cell 7 (v := .slice s.k.a s.k.n s.k.c) rfl
  have c8 := H2.out.cell 8 (v := .slice s.i.a s.i.n s.i.c) rfl
  have c9 := H2.out.cell 9 (v := .slice s.r.a s.r.n s.r.c) rfl
  go_wp2_with fail
  refine (run_calls c s ⟨xa, xn, xc⟩ ⟨ya, yn, yc⟩ x y _ (HC.out.1.below H2.out.low) (HC.out.2.1.below H2.out.low) (HC.out.2.2.below H2.out.low)).mono ?_
  rintro e w3 ⟨hb3, r, rfl, hr1, hr0⟩
  have H3 : Hid (Bo w w3 #[.int .i64 c.letters, .int .i64 c.planes, .int .i64 c.regs, .int .i64 c.lo, .int .i64 c.hi, .int .i64 c.most, .slice s.t.a s.t.n s.t.c, .slice s.k.a s.k.n s.k.c, .slice s.i.a s.i.n s.i.c, .slice s.r.a s.r.n s.r.c]) := H2.out.next hb3
  have HP : Hid ((refB (chkB c).2 c x y ≠ 0 → r = .pointer none) ∧ (refB (chkB c).2 c x y = 0 → ∃ g gs sa, r = .pointer (some ⟨g, 0, none⟩) ∧ (w2.heap.size ≤ g ∧ w2.heap.size ≤ gs) ∧ Tb w3 g gs c.planes.toNat x.length y.length sa (runM c x y).slots (runM c x y).ends (runM c x y).steps ∧
      w3.ownsRow w2.heap.size 79 4 (.slice sa.a sa.n sa.c) sa.n (qdVals c.arrows) ∧ sa.n = c.arrows.length)) := ⟨hr1, hr0⟩
  clear hb3 H2 hr1 hr0 c0 c1 c2 c3 c4 c5 c6 c7 c8 c9
  have c0 := H3.out.cell 0 (v := .int .i64 c.letters) rfl
  have c1 := H3.out.cell 1 (v := .int .i64 c.planes) rfl
  have c2 := H3.out.cell 2 (v := .int .i64 c.regs) rfl
  have c3 := H3.out.cell 3 (v := .int .i64 c.lo) rfl
  have c4 := H3.out.cell 4 (v := .int .i64 c.hi) rfl
  have c5 := H3.out.cell 5 (v := .int .i64 c.most) rfl
  have c6 := H3.out.cell 6 (v := .slice s.t.a s.t.n s.t.c) rfl
  have c7 := H3.out.cell 7 (v := .slice s.k.a s.k.n s.k.c) rfl
  have c8 := H3.out.cell 8 (v := .slice s.i.a s.i.n s.i.c) rfl
  have c9 := H3.out.cell 9 (v := .slice s.r.a s.r.n s.r.c) rfl
  go_wp2_with fail
  refine (drun_calls c s ⟨xa, xn, xc⟩ ⟨ya, yn, yc⟩ x y _ (HC.out.1.below H3.out.low) (HC.out.2.1.below H3.out.low) (HC.out.2.2.below H3.out.low)).mono ?_
  rintro e w4 ⟨hb4, r2, rfl, hd1, hd0⟩
  have H4 : Hid (Bo w w4 #[.int .i64 c.letters, .int .i64 c.planes, .int .i64 c.regs, .int .i64 c.lo, .int .i64 c.hi, .int .i64 c.most, .slice s.t.a s.t.n s.t.c, .slice s.k.a s.k.n s.k.c, .slice s.i.a s.i.n s.i.c, .slice s.r.a s.r.n s.r.c] ∧ Below w3.heap.size w3 w4) := ⟨H3.out.next hb4, hb4⟩
  have HQ : Hid ((refB (chkB c).2 c x y ≠ 0 → r2 = .pointer none) ∧ (refB (chkB c).2 c x y = 0 → ∃ w1 p se, r2 = .pointer (some ⟨p.b, 0, none⟩) ∧ Below w3.heap.size w3 w1 ∧ Dt w1 w4 p c s ⟨xa, xn, xc⟩ ⟨ya, yn, yc⟩ x y se (runM c x y) (runM c x y).steps ∧ Nrm c x.length y.length (runM c x y) ∧ w1.heap.size ≤ p.ob)) := ⟨hd1, hd0⟩
  clear hb4 H3 hd1 hd0 c0 c1 c2 c3 c4 c5 c6 c7 c8 c9
  obtain ⟨R, hR⟩ : ∃ R, refB (chkB c).2 c x y = R := ⟨_, rfl⟩
  have HR : Hid (refB (chkB c).2 c x y = R) := hR
  rw [hR] at HP HQ ⊢
  clear hR
  have hRR : (R != R) = false := by simp
  by_cases h0 : R = 0
  rotate_left
  · obtain rfl := HP.out.1 h0
    obtain rfl := HQ.out.1 h0
    go_wp2
    go_ret
    exact ⟨rfl, H4.out.1.low⟩
  obtain ⟨g, gs, sa, rfl, hge, hT, hO, hsn⟩ := HP.out.2 h0
  obtain ⟨wq, p, se, rfl, hbq, hD, hN, hob⟩ := HQ.out.2 h0
  have hrf := ref_0 (HR.out.trans h0)
  have HXY : Hid (x.length ≤ 65536 ∧ y.length ≤ 65536 ∧ (x.length + 1) * (y.length + 1) ≤ 1048576) := by
    have h1 := hrf.2.1
    have h2 := hrf.1.rt.most
    exact ⟨by omega, by omega, hrf.2.2.2⟩
  have HG : Hid (Gk c) := hrf.1
  have HW : Hid (∀ W, Below w4.heap.size w4 W → Calls Tryz.prog 8 #[.pointer (some ⟨g, 0, none⟩)] W (WalkPost c x y W)) := fun W hW => by
    have hB := H4.out.2.trans (hW.mono H4.out.2.size)
    exact walk_calls HG.out (hT.next hB) ((qds_owned hO).below hB) (by have := HG.out.rt.alen; omega) HXY.out.1 HXY.out.2.1
  have HV : Hid (∀ W, Below w4.heap.size w4 W → Calls Tryz.prog 9 #[.pointer (some ⟨p.b, 0, none⟩)] W (WalkPost c x y W)) := fun W hW => dwalk_calls HG.out (hD.next hW) hN HXY.out.2.2 HXY.out.1 HXY.out.2.1
  have HL : Hid (Below w.heap.size w w4) := H4.out.1.low
  obtain ⟨sc, I, J, str, er, hF, hE⟩ := wlk_parts c x y
  unfold WalkPost at HW HV
  rw [hF, hE] at HW HV
  subst h0
  clear hT hge hO hsn hbq hD hN hob hrf HP HQ HR HG HXY H4 HC hF hE
  go_wp2_with fail
  refine (HW.out _ (Below.refl _ _)).mono ?_
  rintro e w5 ⟨rfl, hb5⟩
  have hb5' := hb5.trans ((below_new (w := w5) (.cells #[.int .i64 sc, .int .i64 I, .int .i64 J, .string str] 39)).mono hb5.size)
  have H5 : Hid (Below w4.heap.size w4 (w5.alloc (.cells #[.int .i64 sc, .int .i64 I, .int .i64 J, .string str] 39)) ∧ (w5.alloc (.cells #[.int .i64 sc, .int .i64 I, .int .i64 J, .string str] 39)).heap[w5.heap.size]? = some (.cells #[.int .i64 sc, .int .i64 I, .int .i64 J, .string str] 39 (0, 0))) := ⟨hb5', heap_alloc_new _ _⟩
  clear hb5 hb5'
  go_wp2_with fail
  obtain ⟨a1, ha1⟩ : ∃ a, w5.heap.size = a := ⟨_, rfl⟩
  rw [ha1] at H5 ⊢
  clear ha1
  generalize w5.alloc (.cells #[.int .i64 sc, .int .i64 I, .int .i64 J, .string str] 39) = w6 at *
  refine (HV.out _ H5.out.1).mono ?_
  rintro e w7 ⟨rfl, hb7⟩
  have hb7' := hb7.trans ((below_new (w := w7) (.cells #[.int .i64 sc, .int .i64 I, .int .i64 J, .string str] 39)).mono hb7.size)
  have H7 : Hid (Below w4.heap.size w4 (w7.alloc (.cells #[.int .i64 sc, .int .i64 I, .int .i64 J, .string str] 39)) ∧ (w7.alloc (.cells #[.int .i64 sc, .int .i64 I, .int .i64 J, .string str] 39)).heap[a1]? = some (.cells #[.int .i64 sc, .int .i64 I, .int .i64 J, .string str] 39 (0, 0)) ∧ (w7.alloc (.cells #[.int .i64 sc, .int .i64 I, .int .i64 J, .string str] 39)).heap[w7.heap.size]? = some (.cells #[.int .i64 sc, .int .i64 I, .int .i64 J, .string str] 39 (0, 0))) :=
    ⟨H5.out.1.trans (hb7'.mono H5.out.1.size), by rw [hb7'.block _ (lt_block H5.out.2)]; exact H5.out.2, heap_alloc_new _ _⟩
  clear hb7 hb7' H5
  go_wp2_with fail
  obtain ⟨a2, ha2⟩ : ∃ a, w7.heap.size = a := ⟨_, rfl⟩
  rw [ha2] at H7 ⊢
  clear ha2
  generalize w7.alloc (.cells #[.int .i64 sc, .int .i64 I, .int .i64 J, .string str] 39) = w8 at *
  refine (HW.out _ H7.out.1).mono ?_
  rintro e w9 ⟨rfl, hb9⟩
  have H9 : Hid (Below w4.heap.size w4 w9 ∧ w9.heap[a1]? = some (.cells #[.int .i64 sc, .int .i64 I, .int .i64 J, .string str] 39 (0, 0)) ∧ w9.heap[a2]? = some (.cells #[.int .i64 sc, .int .i64 I, .int .i64 J, .string str] 39 (0, 0))) := ⟨H7.out.1.trans (hb9.mono H7.out.1.size), by rw [hb9.block _ (lt_block H7.out.2.1)]; exact H7.out.2.1, by rw [hb9.block _ (lt_block H7.out.2.2)]; exact H7.out.2.2⟩
  clear hb9 H7 HW HV
  have p0 := cell_block H9.out.2.1 0 _ rfl
  have p1 := cell_block H9.out.2.1 1 _ rfl
  have p2 := cell_block H9.out.2.1 2 _ rfl
  have p3 := cell_block H9.out.2.1 3 _ rfl
  have q0 := cell_block H9.out.2.2 0 _ rfl
  have q1 := cell_block H9.out.2.2 1 _ rfl
  have q2 := cell_block H9.out.2.2 2 _ rfl
  have q3 := cell_block H9.out.2.2 3 _ rfl
  have l1 := lt_block H9.out.2.1
  have l2 := lt_block H9.out.2.2
  go_wp2
  go_ret
  exact ⟨rfl, HL.out.trans ((H9.out.1.alloc H9.out.1.size _).mono HL.out.size)⟩

namespace traceWalks
open Go.ChangeShapes Go.WideShapes Go.ChangeAt Go.RowKit
open Go.ChangeMaps (open_string shut_string)
theorem own : ownKnob Tryz.prog.godebug = none := by kernel_rfl
theorem laidOut : laidOutB Tryz.prog = true := by kernel_rfl
set_option maxRecDepth 100000 in
theorem lifted (os : Os) (started : os.Started) (H : Type) (enc : TypeId × Value → H) :
    ReturnsInHanded {} Tryz.checked os 3 .any (Rows.traceWalksSpec.pre6 enc Tryz.prog Tryz.f3 Rows.traceWalksRow.domain false) (Rows.traceWalksSpec.post enc Tryz.prog Tryz.f3 false true false false) := by
  refine returnsInHanded_of_change_sized (C := Tryz.checked) own started (by kernel_rfl) Tryz.func3
    (ChangeSpec.witness6 (enc := enc) (C := Tryz.checked) false ⟨#[], #[.agg #[.int .i64 0, .int .i64 0, .int .i64 0, .int .i64 0, .int .i64 0, .int .i64 0, .slice none 0 0, .slice none 0 0, .slice none 0 0, .slice none 0 0], .slice none 0 0, .slice none 0 0], []⟩ 8 (by kernel_rfl) (by kernel_rfl) (by kernel_rfl) (by kernel_rfl)) ?_
  intro W base args ds gs before hval0 hW _ hsz0 _
  have hval : ∀ (j : Nat) t v, Tryz.f3.params[j]? = some t → args[j]? = some v → Value.okWide Tryz.prog W .any base t v := hval0
  have hsz : (DataW.weightsEach Tryz.prog (Tryz.f3.params.toList ++ Rows.traceWalksSpec.plain.varTypes Tryz.prog) (ds ++ gs)).all (· ≤ reachBytes) = true := hsz0
  have hW' := hW
  obtain ⟨p, q, hA0, hV, rfl, hfz, hnd⟩ := hW
  have hA : DataW.TrodAll enc Tryz.prog W 0 (fun _ => true) true Tryz.f3.params.toList args.toList ds p := hA0
  rw [Tryz.params3] at hA hval hsz
  obtain ⟨v0, vs0, d0, ds0, p0, q0, hargs, rfl, rfl, h0, r0⟩ := trodAll_cons hA
  obtain ⟨v1, vs1, d1, ds1, p1, q1, rfl, rfl, rfl, h1, r1⟩ := trodAll_cons r0
  obtain ⟨v2, vs2, d2, ds2, p2, q2, rfl, rfl, rfl, h2, r2⟩ := trodAll_cons r1
  obtain ⟨rfl, rfl, rfl⟩ := trodAll_nil r2
  obtain rfl : args = #[v0, v1, v2] := by cases args; simp_all
  obtain ⟨rfl, rfl⟩ := trodVars_none hV
  have hw : ∀ (j : Nat) (t : TypeId) (d : DataW H), ([26, 22, 22] ++ Rows.traceWalksSpec.plain.varTypes Tryz.prog)[j]? = some t → ([d0, d1, d2] ++ [])[j]? = some d → ∀ n ∈ d.weights Tryz.prog t, n ≤ reachBytes := fun j t d ht hd n hn =>
    of_decide_eq_true (List.all_eq_true.1 hsz _ (DataW.weights_mem_each ht hd n hn))
  obtain ⟨cs0, rfl, hcs0⟩ := okWide_struct Tryz.underlying26 (hval 0 26 v0 rfl rfl)
  have lt0 : ∀ x ∈ p0, x.block < W.heap.size := by obtain ⟨m, hm⟩ := h0; exact DataW.trod_lt m _ _ _ hm
  obtain ⟨z0, s0, e0, in0⟩ := cd_in hcs0 h0
  subst e0
  have lt1 : ∀ x ∈ p1, x.block < W.heap.size := by obtain ⟨m, hm⟩ := h1; exact DataW.trod_lt m _ _ _ hm
  obtain ⟨ax1, nx1, cx1, rfl⟩ := okWide_slice Tryz.underlying22 (hval 1 22 v1 rfl rfl)
  obtain ⟨sl1, l1, e1, in1, jn1⟩ := ints_in h1
  obtain ⟨rfl, rfl, rfl⟩ : ax1 = sl1.a ∧ nx1 = sl1.n ∧ cx1 = sl1.c := by have e := e1; simp [Value.cells] at e; exact e
  have lt2 : ∀ x ∈ p2, x.block < W.heap.size := by obtain ⟨m, hm⟩ := h2; exact DataW.trod_lt m _ _ _ hm
  obtain ⟨ax2, nx2, cx2, rfl⟩ := okWide_slice Tryz.underlying22 (hval 2 22 v2 rfl rfl)
  obtain ⟨sl2, l2, e2, in2, jn2⟩ := ints_in h2
  obtain ⟨rfl, rfl, rfl⟩ : ax2 = sl2.a ∧ nx2 = sl2.n ∧ cx2 = sl2.c := by have e := e2; simp [Value.cells] at e; exact e
  clear hA0 hval0
  refine (walks_walk z0 s0 sl1 l1 sl2 l2 W in0 in1 jn1 in2 jn2).mono fun e W' ⟨he, bel⟩ => ?_
  subst he
  exact ⟨_, rfl, _, _, _, [], _, [], hW', trodAll_mk1 (shut_bool Tryz.underlying4 _), (trodAll_cons_mk (Below.trod laidOut (by kernel_rfl) (of_decide_eq_true (by kernel_rfl)) h0 bel lt0) (trodAll_cons_mk (Below.trod laidOut (by kernel_rfl) (of_decide_eq_true (by kernel_rfl)) h1 bel lt1) (trodAll_cons_mk (Below.trod laidOut (by kernel_rfl) (of_decide_eq_true (by kernel_rfl)) h2 bel lt2) trodAll_mk0))), rfl, bel.frame _, fun h => by cases h⟩
end traceWalks

theorem traceWalks_holds : Rows.TraceWalksSaid :=
  OpenClaim.holds_of_wide 3 Tryz.f3 rfl rfl rfl rfl rfl rfl rfl ⟨rfl, rfl, rfl, rfl, rfl⟩ rfl rfl rfl rfl rfl (by kernel_rfl) Tryz.func3 (by kernel_rfl)
    (of_decide_eq_true (by kernel_rfl)) (by unfold Func.isWrapper; first | (rw [if_pos (by decide +kernel)]; kernel_rfl) | (rw [if_neg (by decide +kernel)]; exact ⟨rfl, rfl⟩))
    (fun os started H enc _ => traceWalks.lifted os started H enc)

end Go.Proofs.YtnkfibahkmmnpaaGreat
