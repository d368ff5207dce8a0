/-
  The walk of Walk.
-/
import Derived.Test.YtnkfibahkmmnpaaKq
namespace Go.Proofs.Ytnkfibahkmmnpaa
open Go.RowKit Go.Deep Go.Maps

/-- The way back from the best end: the columns, last first, and where it begins. -/
def wayL (c : Cd) (x y : List Int) : List Int × Nat × Nat := goW c x y ((runM c x y).ends.i.toNat + (runM c x y).ends.j.toNat + 1) (runM c x y).ends.i.toNat (runM c x y).ends.j.toNat (setL (risB (runM c x y).ends))
def colS (l : List Int) : ByteArray := ⟨((l.map u8O).reverse).toArray⟩
/-- What Walk tells. -/
def wlkF (c : Cd) (x y : List Int) : Array Value := if (runM c x y).ends.found then #[.int .i64 (runM c x y).ends.score, .int .i64 ((wayL c x y).2.1 : Int), .int .i64 ((wayL c x y).2.2 : Int), .string (colS (wayL c x y).1)] else #[.int .i64 0, .int .i64 0, .int .i64 0, .string ⟨#[]⟩]
def wlkE (c : Cd) (x y : List Int) : Int := if (runM c x y).ends.found then 0 else 130
def WalkPost (c : Cd) (x y : List Int) (w : World) (r : Ending) (w' : World) : Prop := r = .returned (.tuple #[.agg (wlkF c x y), .int .i64 (wlkE c x y)]) ∧ Below w.heap.size w w'
set_option maxRecDepth 10000 in
set_option maxHeartbeats 2000000 in
theorem walk_calls {c : Cd} (hg : Gk c) {x y : List Int} {w : World} {g gs : Nat} {ta : Sl} {st : Int} (hT : Tb w g gs c.planes.toNat x.length y.length ta (runM c x y).slots (runM c x y).ends st)
    (ha : QdsAt w ta.a ta.n c.arrows) (hl : ta.n ≤ 100000) (hx : x.length ≤ 65536) (hy : y.length ≤ 65536) :
    Calls Try.prog 13 #[.pointer (some ⟨g, 0, none⟩)] w (WalkPost c x y w) := by
  have hres : Try.f13.results = #[.cell 2 43, .tmp 3] := by kernel_rfl
  have HT : Hid (Tb w g gs c.planes.toNat x.length y.length ta (runM c x y).slots (runM c x y).ends st ∧ QdsAt w ta.a ta.n c.arrows ∧ ta.n ≤ 100000 ∧ x.length ≤ 65536 ∧ y.length ≤ 65536 ∧ Gk c) := ⟨hT, ha, hl, hx, hy, hg⟩
  have HR : Hid ((w.alloc (.cells #[.int .i64 0, .int .i64 0, .int .i64 0, .string ⟨#[]⟩] 43)).heap[w.heap.size]? = some (.cells #[.int .i64 0, .int .i64 0, .int .i64 0, .string ⟨#[]⟩] 43 (0, 0)) ∧ Below w.heap.size w (w.alloc (.cells #[.int .i64 0, .int .i64 0, .int .i64 0, .string ⟨#[]⟩] 43))) := ⟨heap_alloc_new _ _, below_new _⟩
  clear hT ha hl hx hy hg
  go_enter Try.func13, Try.ntmps13
  go_wp2_with fail
  refine (best_calls (HT.out.1.next HR.out.2)).mono ?_
  rintro e w1 ⟨ao, cap, rfl, ho, hb1⟩
  have H1 : Hid (w1.heap[w.heap.size]? = some (.cells #[.int .i64 0, .int .i64 0, .int .i64 0, .string ⟨#[]⟩] 43 (0, 0)) ∧ Below w.heap.size w w1 ∧ IntsAt w1 ao (risB (runM c x y).ends).length (risB (runM c x y).ends)) :=
    ⟨by rw [hb1.block _ (lt_block HR.out.1)]; exact HR.out.1, HR.out.2.trans (hb1.mono HR.out.2.size), ints_owned ho⟩
  clear ho hb1 HR
  cases hf : (runM c x y).ends.found with
  | false =>
    have r0 := cell_block H1.out.1 0 _ rfl
    have r1 := cell_block H1.out.1 1 _ rfl
    have r2 := cell_block H1.out.1 2 _ rfl
    have r3 := cell_block H1.out.1 3 _ rfl
    have rf : ∀ k, w1.frozen? ⟨w.heap.size, k, none⟩ = false := fun k => frozen_of_row _ _ k _ _ H1.out.1
    have HX : Hid (∀ W : World, Below w.heap.size w W → WalkPost c x y w (.returned (.tuple #[.agg #[.int .i64 0, .int .i64 0, .int .i64 0, .string ⟨#[]⟩], .int .i64 130])) W) := fun W hW => ⟨by unfold wlkF wlkE; rw [hf]; rfl, hW⟩
    clear hf
    generalize (risB (runM c x y).ends).length = rl at *
    generalize (runM c x y).ends = E at *
    obtain ⟨e1, e2, e3, e4, e5⟩ := E
    go_wp2
    refine bodyPost_ret (v := .tuple #[.agg #[.int .i64 0, .int .i64 0, .int .i64 0, .string ⟨#[]⟩], .int .i64 130]) ?_ rfl (HX.out _ ?_)
    · simp only [results, hres]
      go_simp
    · exact (((H1.out.2.1.setCell (p := ⟨w.heap.size, 0, none⟩) (Nat.le_refl _) _).setCell (p := ⟨w.heap.size, 1, none⟩) (Nat.le_refl _) _).setCell (p := ⟨w.heap.size, 2, none⟩) (Nat.le_refl _) _).setCell (p := ⟨w.heap.size, 3, none⟩) (Nat.le_refl _) _
  | true =>
    obtain ⟨i, j, hi, hj, hix, hjy, hwk⟩ := wk_start HT.out.2.2.2.2.2 hf
    have HX : Hid (∀ W : World, Below w.heap.size w W → WalkPost c x y w (.returned (.tuple #[.agg #[.int .i64 (runM c x y).ends.score, .int .i64 ((wayL c x y).2.1 : Int), .int .i64 ((wayL c x y).2.2 : Int), .string (colS (wayL c x y).1)], .int .i64 0])) W) := fun W hW => ⟨by unfold wlkF wlkE; rw [hf]; rfl, hW⟩
    have HA : Hid (∀ W, Below w.heap.size w W → Calls Try.prog 25 #[.pointer (some ⟨g, 0, none⟩)] W (ArPost c.arrows W)) := fun W hW => arrows_calls (HT.out.1.next hW) c.arrows (HT.out.2.1.below hW) HT.out.2.2.1
    have HO : Hid (∀ W cap, Below w1.heap.size w1 W → Calls Try.prog 26 #[.slice ao (risB (runM c x y).ends).length cap] W fun e w' => e = .returned (.agg (setC (setL (risB (runM c x y).ends)))) ∧ Below W.heap.size W w') := fun W cap hW => setOf_calls ao _ cap _ W (H1.out.2.2.below hW) (ris_small _)
    have HWy : Hid (∀ (W : World) (b : Nat) (sa : Sl), Wb w W b g sa (i : Int) (j : Int) (setL (risB (runM c x y).ends)) → W.ownsRow w.heap.size 86 4 (.slice sa.a sa.n sa.c) sa.n (qdVals c.arrows) → Calls Try.prog 27 #[.pointer (some ⟨b, 0, none⟩)] W fun r w' => r = .returned (.agg #[.int .i64 ((wayL c x y).2.1 : Int), .int .i64 ((wayL c x y).2.2 : Int), .string (colS (wayL c x y).1)]) ∧ Below w.heap.size w w' ∧ (∀ k, k < W.heap.size → k ≠ b → w'.heap[k]? = W.heap[k]?) ∧ W.heap.size ≤ w'.heap.size) := fun W b sa hW hq => by
      refine (path_calls HT.out.2.2.2.2.2 HT.out.1 i j hW ⟨hix, HT.out.2.2.2.1⟩ ⟨hjy, HT.out.2.2.2.2.1⟩ hq hwk).mono ?_
      rintro r w' ⟨h1, h2, h3, h4⟩
      refine ⟨?_, h2, h3, h4⟩
      rw [h1]
      unfold wayL colS
      rw [hi, hj]
      rfl
    have hi' : (runM c x y).ends.i = (i : Int) := hi
    have hj' : (runM c x y).ends.j = (j : Int) := hj
    have HS : Hid (∀ s, setL (risB (runM c x y).ends) = s → setC (setL (risB (runM c x y).ends)) = setC s) := fun s h => by rw [h]
    clear hwk hi hj HT
    generalize setL (risB (runM c x y).ends) = S at *
    generalize (risB (runM c x y).ends).length = rl at *
    rw [hi', hj']
    clear hf hi' hj' HS
    generalize (runM c x y).ends.score = sc at *
    generalize (wayL c x y).2.1 = I at *
    generalize (wayL c x y).2.2 = J at *
    generalize colS (wayL c x y).1 = str at *
    go_wp2_with fail
    refine (HA.out _ H1.out.2.1).mono ?_
    rintro e w2 ⟨aa, ac, rfl, hq2, hb2⟩
    obtain ⟨an, han⟩ : ∃ an, c.arrows.length = an := ⟨_, rfl⟩
    rw [han] at hq2 ⊢
    have H2 : Hid (w2.ownsRow w.heap.size 86 4 (.slice aa an ac) an (qdVals c.arrows) ∧ w2.heap[w.heap.size]? = some (.cells #[.int .i64 0, .int .i64 0, .int .i64 0, .string ⟨#[]⟩] 43 (0, 0)) ∧ Below w.heap.size w w2) := ⟨owned_base hq2 H1.out.2.1.size, by rw [hb2.block _ (lt_block H1.out.1)]; exact H1.out.1, H1.out.2.1.trans (hb2.mono H1.out.2.1.size)⟩
    have HB2 : Hid (Below w1.heap.size w1 w2) := hb2
    clear hq2 hb2 HA
    go_wp2_with fail
    refine (HO.out _ _ HB2.out).mono ?_
    rintro e w3 ⟨rfl, hb3⟩
    have H3 : Hid (w3.ownsRow w.heap.size 86 4 (.slice aa an ac) an (qdVals c.arrows) ∧ w3.heap[w.heap.size]? = some (.cells #[.int .i64 0, .int .i64 0, .int .i64 0, .string ⟨#[]⟩] 43 (0, 0)) ∧ Below w.heap.size w w3) := ⟨owned_below H2.out.1 hb3, by rw [hb3.block _ (lt_block H2.out.2.1)]; exact H2.out.2.1, H2.out.2.2.trans (hb3.mono H2.out.2.2.size)⟩
    clear hb3 HB2 HO H2 H1
    have H4 : Hid (Wb w (w3.alloc (.cells (wkCells g ⟨aa, an, ac⟩ (i : Int) (j : Int) S) 83)) w3.heap.size g ⟨aa, an, ac⟩ (i : Int) (j : Int) S ∧ (w3.alloc (.cells (wkCells g ⟨aa, an, ac⟩ (i : Int) (j : Int) S) 83)).ownsRow w.heap.size 86 4 (.slice aa an ac) an (qdVals c.arrows) ∧ (w3.alloc (.cells (wkCells g ⟨aa, an, ac⟩ (i : Int) (j : Int) S) 83)).heap[w.heap.size]? = some (.cells #[.int .i64 0, .int .i64 0, .int .i64 0, .string ⟨#[]⟩] 43 (0, 0)) ∧ w.heap.size < w3.heap.size) :=
      ⟨⟨heap_alloc_new _ _, H3.out.2.2.alloc H3.out.2.2.size _, H3.out.2.2.size⟩, owned_below H3.out.1 (below_new _), by rw [(below_new _).block _ (lt_block H3.out.2.1)]; exact H3.out.2.1, lt_block H3.out.2.1⟩
    clear H3
    unfold wkCells at H4
    unfold setC
    go_wp2_with fail
    refine (HWy.out _ _ _ H4.out.1 H4.out.2.1).mono ?_
    rintro e w5 ⟨rfl, hb5, ho5, hz5⟩
    have H5 : Hid (w5.heap[w.heap.size]? = some (.cells #[.int .i64 0, .int .i64 0, .int .i64 0, .string ⟨#[]⟩] 43 (0, 0)) ∧ Below w.heap.size w w5) := ⟨by rw [ho5 _ (lt_block H4.out.2.2.1) (by have := H4.out.2.2.2; omega)]; exact H4.out.2.2.1, hb5⟩
    clear hb5 ho5 hz5 H4 HWy
    have r0 := cell_block H5.out.1 0 _ rfl
    have r1 := cell_block H5.out.1 1 _ rfl
    have r2 := cell_block H5.out.1 2 _ rfl
    have r3 := cell_block H5.out.1 3 _ rfl
    have rf : ∀ k, w5.frozen? ⟨w.heap.size, k, none⟩ = false := fun k => frozen_of_row _ _ k _ _ H5.out.1
    go_wp2
    refine bodyPost_ret (v := .tuple #[.agg #[.int .i64 sc, .int .i64 (I : Int), .int .i64 (J : Int), .string str], .int .i64 0]) ?_ rfl (HX.out _ ?_)
    · simp only [results, hres]
      go_simp
    · exact (((H5.out.2.setCell (p := ⟨w.heap.size, 0, none⟩) (Nat.le_refl _) _).setCell (p := ⟨w.heap.size, 1, none⟩) (Nat.le_refl _) _).setCell (p := ⟨w.heap.size, 2, none⟩) (Nat.le_refl _) _).setCell (p := ⟨w.heap.size, 3, none⟩) (Nat.le_refl _) _

end Go.Proofs.Ytnkfibahkmmnpaa
