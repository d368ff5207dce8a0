/-
  Two numbers, neither of which may be below 0: costs. Small calls of the checker: wrong, modeOf; clip. A piece of a gap's cost: gap.
-/
import Derived.Test.YtlaodgdlkkmmeaaGreatG35
namespace Go.Proofs.YtlaodgdlkkmmeaaGreat
open Go.RowKit Go.Deep Go.Maps

theorem LS.start3 {b : Nat} {s : Sl} {c : Ck} {w : World} {O : Nat → Prop} (hck : CkAt O b s c w) (hok : CkOk c) (h : Hd) (ka : Option Addr) (kn kc : Nat) (h2 : Hd) (la : Option Addr) (ln lc : Nat) :
    LS w O (fun g => O g ∧ g < w.heap.size) b s s (some c) [(w.heap.size + 1 + 1, flL (0, 0), 32), (w.heap.size + 1, exL h2 la ln lc, 102), (w.heap.size, exL h ka kn kc, 102)] (((w.alloc (.cells #[.int .i64 h.kind, .int .i64 h.num, .string (bs h.text), .slice ka kn kc, .int .i64 h.pl] 102)).alloc (.cells #[.int .i64 h2.kind, .int .i64 h2.num, .string (bs h2.text), .slice la ln lc, .int .i64 h2.pl] 102)).alloc (.cells #[.int .i64 0, .int .i64 0] 32)) := by
  have h1 := (((LS.start hck hok).alloc (exL h ka kn kc) 102).alloc (exL h2 la ln lc) 102).alloc (flL (0, 0)) 32
  rw [show ((w.alloc (.cells (exL h ka kn kc).toArray 102)).alloc (.cells (exL h2 la ln lc).toArray 102)).heap.size = w.heap.size + 1 + 1 by simp, show (w.alloc (.cells (exL h ka kn kc).toArray 102)).heap.size = w.heap.size + 1 by simp] at h1
  exact h1
def costs2 (p : Int) : Er (Ck × Mn) → Er (Ck × Int × Int)
  | .error f => .error f
  | .ok (c2, m2) => .ok (c2, p, m2.place)
def CPost (O : Nat → Prop) (b : Nat) (w : World) (r : Er (Ck × Int × Int)) (e : Ending) (w' : World) : Prop :=
  match r with
  | .error f => f.1 ≠ 0 ∧ (∃ p q, e = .returned (.tuple #[.int .i64 p, .int .i64 q, .agg #[.int .i64 f.1, .int .i64 f.2]])) ∧ Fr O w w'
  | .ok (c', p, q) => e = .returned (.tuple #[.int .i64 p, .int .i64 q, .agg #[.int .i64 0, .int .i64 0]]) ∧ Fr O w w' ∧ ∃ O' s', (∀ g, O' g → O g ∨ w.heap.size ≤ g) ∧ CkAt O' b s' c' w'
set_option maxRecDepth 20000 in
set_option maxHeartbeats 8000000 in
theorem costs_calls {B : Nat} {O : Nat → Prop} {b : Nat} {s : Sl} {c : Ck} (h : Hd) (k : Fo) (ka : Option Addr) (kn kc : Nat) (h2 : Hd) (k2 : Fo) (la : Option Addr) (ln lc : Nat) (w : World) (hck : CkAt O b s c w) (hok : CkOk c) (hlow : ∀ g, O g → B ≤ g) (hB : B ≤ w.heap.size)
    (hE : ExAt false (fun g => g < B) w (h, k) ka kn) (hr : okE h k) (hE2 : ExAt false (fun g => g < B) w (h2, k2) la ln) (hr2 : okE h2 k2) :
    Calls Tryz.prog 94 #[.pointer (some ⟨b, 0, none⟩), exV h ka kn kc, exV h2 la ln lc] w (CPost O b w (costsB c (h, k) (h2, k2))) := by
  have hres : Tryz.f94.results = #[.tmp 6, .tmp 7, .cell 8 32] := by kernel_rfl
  have hS1 := LS.start3 hck hok h ka kn kc h2 la ln lc
  obtain ⟨r1, hr1⟩ : ∃ r, r = askQ (numFrom 0) c (h, k) := ⟨_, rfl⟩
  have HA1 : Hid (∀ O' s' L W g, LS w O O' b s s' (some c) L W → (g, [.int .i64 0], 3) ∈ L → Calls Tryz.prog 89 #[.pointer (some ⟨b, 0, none⟩), .agg #[.int .i64 h.kind, .int .i64 h.num, .string (bs h.text), .slice ka kn kc, .int .i64 h.pl], .func (.func 126) #[] #[.pointer (some ⟨g, 0, none⟩)]] W fun e w' => ∃ mt mx mp mn f1 f2, e = .returned (.tuple #[.agg #[.bool mt, .string mx, .int .i64 mp, .int .i64 mn], .agg #[.int .i64 f1, .int .i64 f2]]) ∧ Hid (∃ m oc O2 s2, (m.isText = mt ∧ bs m.text = mx ∧ m.place = mp ∧ m.num = mn) ∧ RQ r1 m (f1, f2) oc ∧ LS w O O2 b s s2 oc L w')) := by
    intro O' s' L W g h1' h2'
    refine (h1'.askNum h k ka kn kc 0 g h2' hlow hB hE hr).mono ?_
    rintro e w' ⟨m, f, oc, O2, s2, rfl, h3⟩
    exact ⟨_, _, _, _, _, _, rfl, m, oc, O2, s2, ⟨rfl, rfl, rfl, rfl⟩, by rw [hr1]; exact h3.out.1, h3.out.2⟩
  have HA2 : Hid (∀ c1, ∀ O' s' L W g, LS w O O' b s s' (some c1) L W → (g, [.int .i64 0], 3) ∈ L → Calls Tryz.prog 89 #[.pointer (some ⟨b, 0, none⟩), .agg #[.int .i64 h2.kind, .int .i64 h2.num, .string (bs h2.text), .slice la ln lc, .int .i64 h2.pl], .func (.func 126) #[] #[.pointer (some ⟨g, 0, none⟩)]] W fun e w' => ∃ mt mx mp mn f1 f2, e = .returned (.tuple #[.agg #[.bool mt, .string mx, .int .i64 mp, .int .i64 mn], .agg #[.int .i64 f1, .int .i64 f2]]) ∧ Hid (∃ m oc O2 s2, (m.isText = mt ∧ bs m.text = mx ∧ m.place = mp ∧ m.num = mn) ∧ RQ (askQ (numFrom 0) c1 (h2, k2)) m (f1, f2) oc ∧ LS w O O2 b s s2 oc L w')) := by
    intro c1 O' s' L W g h1' h2'
    refine (h1'.askNum h2 k2 la ln lc 0 g h2' hlow hB hE2 hr2).mono ?_
    rintro e w' ⟨m, f, oc, O2, s2, rfl, h3⟩
    exact ⟨_, _, _, _, _, _, rfl, m, oc, O2, s2, ⟨rfl, rfl, rfl, rfl⟩, h3.out.1, h3.out.2⟩
  have HSS : Hid (∀ O' s' oc L W, LS w O O' b s s' oc L W → (w.heap.size, exL h ka kn kc, 102) ∈ L → W.cell? ⟨w.heap.size, 0, none⟩ = some (.int .i64 h.kind) ∧ W.cell? ⟨w.heap.size, 1, none⟩ = some (.int .i64 h.num) ∧ W.cell? ⟨w.heap.size, 2, none⟩ = some (.string (bs h.text)) ∧ W.cell? ⟨w.heap.size, 3, none⟩ = some (.slice ka kn kc) ∧ W.cell? ⟨w.heap.size, 4, none⟩ = some (.int .i64 h.pl)) := fun O' s' oc L W h1 h2 => ⟨h1.at h2 rfl, h1.at h2 rfl, h1.at h2 rfl, h1.at h2 rfl, h1.at h2 rfl⟩
  have HSS2 : Hid (∀ O' s' oc L W, LS w O O' b s s' oc L W → (w.heap.size + 1, exL h2 la ln lc, 102) ∈ L → W.cell? ⟨w.heap.size + 1, 0, none⟩ = some (.int .i64 h2.kind) ∧ W.cell? ⟨w.heap.size + 1, 1, none⟩ = some (.int .i64 h2.num) ∧ W.cell? ⟨w.heap.size + 1, 2, none⟩ = some (.string (bs h2.text)) ∧ W.cell? ⟨w.heap.size + 1, 3, none⟩ = some (.slice la ln lc) ∧ W.cell? ⟨w.heap.size + 1, 4, none⟩ = some (.int .i64 h2.pl)) := fun O' s' oc L W h1 h2 => ⟨h1.at h2 rfl, h1.at h2 rfl, h1.at h2 rfl, h1.at h2 rfl, h1.at h2 rfl⟩
  have HX : Hid (costsB c (h, k) (h2, k2) = match r1 with | .error f => .error f | .ok (c1, m1) => (match askQ (numFrom 0) c1 (h2, k2) with | .error f => .error f | .ok (c2, m2) => .ok (c2, m1.place, m2.place))) := by show _ = _; rw [hr1]; rfl
  generalize hO1 : (fun g => O g ∧ g < w.heap.size) = O1 at hS1
  clear hO1 hck hok hlow hB hE hr hE2 hr2 hr1
  unfold exV
  have HS1 : Hid (LS w O O1 b s s (some c) [(w.heap.size + 1 + 1, flL (0, 0), 32), (w.heap.size + 1, exL h2 la ln lc, 102), (w.heap.size, exL h ka kn kc, 102)] (((w.alloc (.cells #[.int .i64 h.kind, .int .i64 h.num, .string (bs h.text), .slice ka kn kc, .int .i64 h.pl] 102)).alloc (.cells #[.int .i64 h2.kind, .int .i64 h2.num, .string (bs h2.text), .slice la ln lc, .int .i64 h2.pl] 102)).alloc (.cells #[.int .i64 0, .int .i64 0] 32))) := hS1
  clear hS1
  go_enter Tryz.func94, Tryz.ntmps94
  go_upto_region 1 with (fail)
  generalize (((w.alloc (.cells #[.int .i64 h.kind, .int .i64 h.num, .string (bs h.text), .slice ka kn kc, .int .i64 h.pl] 102)).alloc (.cells #[.int .i64 h2.kind, .int .i64 h2.num, .string (bs h2.text), .slice la ln lc, .int .i64 h2.pl] 102)).alloc (.cells #[.int .i64 0, .int .i64 0] 32)) = w1 at *
  have HS0 : Hid (LS w O O1 b s s (some c) [(w.heap.size + 1 + 1, flL (0, 0), 32), (w.heap.size + 1, exL h2 la ln lc, 102), (w.heap.size, exL h ka kn kc, 102)] w1.drew) := HS1.out.drew
  clear HS1
  go_cut [9, 10] (fun mv fv wc => ∃ g7 g8 mt mx mp mn f1 f2, mv = .pointer (some ⟨g7, 0, none⟩) ∧ fv = .pointer (some ⟨g8, 0, none⟩) ∧ AR r1 w O b s mt mx mp mn f1 f2 (fun m => [(g7, mnL m, 109), (g8, flL (f1, f2), 32), (w.heap.size + 1 + 1, flL (0, 0), 32), (w.heap.size + 1, exL h2 la ln lc, 102), (w.heap.size, exL h ka kn kc, 102)]) wc)
  case first =>
    refine wp_region_Y (fun j => [].contains j) (fun W => W.cell? ⟨w.heap.size, 0, none⟩ = some (.int .i64 h.kind) ∧ W.cell? ⟨w.heap.size, 1, none⟩ = some (.int .i64 h.num) ∧ W.cell? ⟨w.heap.size, 2, none⟩ = some (.string (bs h.text)) ∧ W.cell? ⟨w.heap.size, 3, none⟩ = some (.slice ka kn kc) ∧ W.cell? ⟨w.heap.size, 4, none⟩ = some (.int .i64 h.pl)) (by kernel_rfl) ?_
    refine wpAnyY_takeD (i := 0) 13 (v := .pointer (some ⟨b, 0, none⟩)) rfl rfl (by kernel_rfl) (by kernel_rfl) (late_of (by kernel_rfl)) (by kernel_rfl) (by kernel_rfl) (fun _ _ _ h => h) (HSS.out _ _ _ _ _ HS0.out (by simp)) (Or.inl ⟨by rfl, by (intro W hW; obtain ⟨_, _, _, _, _⟩ := hW; go_simp)⟩) ?_
    simp only [Act.put, List.setIfInBounds_toArray, List.set_cons_succ, List.set_cons_zero]
    refine wpAnyY_takeD (i := 1) 14 (v := .agg #[.int .i64 h.kind, .int .i64 h.num, .string (bs h.text), .slice ka kn kc, .int .i64 h.pl]) rfl rfl (by kernel_rfl) (by kernel_rfl) (late_of (by kernel_rfl)) (by kernel_rfl) (by kernel_rfl) (fun _ _ _ h => h) (HSS.out _ _ _ _ _ HS0.out (by simp)) (Or.inl ⟨by rfl, by (intro W hW; obtain ⟨_, _, _, _, _⟩ := hW; go_simp)⟩) ?_
    simp only [Act.put, List.setIfInBounds_toArray, List.set_cons_succ, List.set_cons_zero]
    refine wpAnyY_three (i := 2) (j := 7) (l := 8) rfl rfl rfl (by kernel_rfl) (fun K hK => ?_) (fun K hK => ?_) (fun K hK => ?_)
    · refine call95c_step rfl rfl rfl ?_
      intro V1 gc hV hG
      have HS2 : Hid (LS w O O1 b s s (some c) [(gc, [.int .i64 0], 3), (w.heap.size + 1 + 1, flL (0, 0), 32), (w.heap.size + 1, exL h2 la ln lc, 102), (w.heap.size, exL h ka kn kc, 102)] V1) := HS0.out.allocE _ 3 hV hG
      refine hK.out _ _ (fun _ => HSS.out _ _ _ _ _ HS2.out (by simp)) ?_
      clear hK K HS0 hV hG
      simp only [Act.put, List.setIfInBounds_toArray, List.set_cons_succ, List.set_cons_zero]
      refine wpAnyY_three (i := 3) (j := 7) (l := 8) rfl rfl rfl (by kernel_rfl) (fun K hK => ?_) (fun K hK => ?_) (fun K hK => ?_)
      · refine call89_step rfl rfl rfl rfl rfl rfl ?_
        refine (HA1.out _ _ _ _ gc HS2.out (by simp)).mono ?_
        rintro e V3 ⟨mt, mx, mp, mn, f1, f2, rfl, hV⟩
        refine ⟨_, rfl, ?_⟩
        obtain ⟨m, oc, O2, s2, hm, hRQ, hLS⟩ := hV.out
        have HS4 : Hid (LS w O O2 b s s2 oc [(gc, [.int .i64 0], 3), (w.heap.size + 1 + 1, flL (0, 0), 32), (w.heap.size + 1, exL h2 la ln lc, 102), (w.heap.size, exL h ka kn kc, 102)] V3) := hLS
        have HR : Hid (RQ r1 m (f1, f2) oc ∧ m.isText = mt ∧ bs m.text = mx ∧ m.place = mp ∧ m.num = mn) := ⟨hRQ, hm⟩
        refine hK.out _ _ (fun _ => HSS.out _ _ _ _ _ HS4.out (by simp)) ?_
        clear hK K HS2 hV hm hRQ hLS
        simp only [Act.put, List.setIfInBounds_toArray, List.set_cons_succ, List.set_cons_zero]
        refine wpAnyY_takeD (i := 4) 12 (v := .tuple #[.agg #[.bool mt, .string mx, .int .i64 mp, .int .i64 mn], .agg #[.int .i64 f1, .int .i64 f2]]) rfl rfl (by kernel_rfl) (by kernel_rfl) (late_of (by kernel_rfl)) (by kernel_rfl) (by kernel_rfl) (fun _ _ _ h => h) (HSS.out _ _ _ _ _ HS4.out (by simp)) (Or.inl ⟨by rfl, by (intro W hW; obtain ⟨_, _, _, _, _⟩ := hW; go_simp)⟩) ?_
        simp only [Act.put, List.setIfInBounds_toArray, List.set_cons_succ, List.set_cons_zero]
        refine wpAnyY_takeD (i := 5) 17 (v := .agg #[.bool mt, .string mx, .int .i64 mp, .int .i64 mn]) rfl rfl (by kernel_rfl) (by kernel_rfl) (late_of (by kernel_rfl)) (by kernel_rfl) (by kernel_rfl) (fun _ _ _ h => h) (HSS.out _ _ _ _ _ HS4.out (by simp)) (Or.inl ⟨by rfl, by (intro W hW; obtain ⟨_, _, _, _, _⟩ := hW; go_simp)⟩) ?_
        simp only [Act.put, List.setIfInBounds_toArray, List.set_cons_succ, List.set_cons_zero]
        refine wpAnyY_takeD (i := 6) 18 (v := .agg #[.int .i64 f1, .int .i64 f2]) rfl rfl (by kernel_rfl) (by kernel_rfl) (late_of (by kernel_rfl)) (by kernel_rfl) (by kernel_rfl) (fun _ _ _ h => h) (HSS.out _ _ _ _ _ HS4.out (by simp)) (Or.inl ⟨by rfl, by (intro W hW; obtain ⟨_, _, _, _, _⟩ := hW; go_simp)⟩) ?_
        simp only [Act.put, List.setIfInBounds_toArray, List.set_cons_succ, List.set_cons_zero]
        refine wpAnyY_two (i := 7) (j := 8) rfl rfl (by kernel_rfl) (fun K hK => ?_) (fun K hK => ?_)
        · refine alloc109_step rfl rfl rfl ?_
          intro V5 g7 hV hG
          have HS6 : Hid (LS w O O2 b s s2 oc [(g7, mnL mn0, 109), (gc, [.int .i64 0], 3), (w.heap.size + 1 + 1, flL (0, 0), 32), (w.heap.size + 1, exL h2 la ln lc, 102), (w.heap.size, exL h ka kn kc, 102)] V5) := HS4.out.allocE (mnL mn0) 109 hV hG
          refine hK.out _ _ (fun _ => HSS.out _ _ _ _ _ HS6.out (by simp)) ?_
          clear hK K HS4 hV hG
          simp only [Act.put, List.setIfInBounds_toArray, List.set_cons_succ, List.set_cons_zero]
          refine wpAnyY_one (i := 8) rfl (by kernel_rfl) (fun K hK => ?_)
          refine alloc32_step rfl rfl rfl ?_
          intro V7 g8 hV hG
          have HS8 : Hid (LS w O O2 b s s2 oc [(g8, flL (0, 0), 32), (g7, mnL mn0, 109), (gc, [.int .i64 0], 3), (w.heap.size + 1 + 1, flL (0, 0), 32), (w.heap.size + 1, exL h2 la ln lc, 102), (w.heap.size, exL h ka kn kc, 102)] V7) := HS6.out.allocE (flL (0, 0)) 32 hV hG
          refine hK.out _ _ (fun _ => HSS.out _ _ _ _ _ HS8.out (by simp)) ?_
          clear hK K HS6 hV hG
          simp only [Act.put, List.setIfInBounds_toArray, List.set_cons_succ, List.set_cons_zero]
          refine wpAnyY_one (i := 9) rfl (by kernel_rfl) (fun K hK => ?_)
          have HF11 : Hid (LS w O O2 b s s2 oc [(g7, mnL mn0, 109), (g8, flL (0, 0), 32), (gc, [.int .i64 0], 3), (w.heap.size + 1 + 1, flL (0, 0), 32), (w.heap.size + 1, exL h2 la ln lc, 102), (w.heap.size, exL h ka kn kc, 102)] V7) := HS8.out.front (L1 := [(g8, flL (0, 0), 32)]) (L2 := [(gc, [.int .i64 0], 3), (w.heap.size + 1 + 1, flL (0, 0), 32), (w.heap.size + 1, exL h2 la ln lc, 102), (w.heap.size, exL h ka kn kc, 102)]) rfl
          refine store109_step rfl rfl rfl rfl rfl (HF11.out.blk (List.mem_cons_self ..)) ?_
          intro V9 hV
          have HS10 : Hid (LS w O O2 b s s2 oc [(g7, mnL m, 109), (g8, flL (0, 0), 32), (gc, [.int .i64 0], 3), (w.heap.size + 1 + 1, flL (0, 0), 32), (w.heap.size + 1, exL h2 la ln lc, 102), (w.heap.size, exL h ka kn kc, 102)] V9) := HF11.out.store109 m HR.out.2.2.1.symm (by rw [hV, HR.out.2.1, HR.out.2.2.2.1, HR.out.2.2.2.2])
          refine hK.out _ _ (fun _ => HSS.out _ _ _ _ _ HS10.out (by simp)) ?_
          clear hK K HS8 hV HF11
          refine wpAnyY_one (i := 10) rfl (by kernel_rfl) (fun K hK => ?_)
          have HF14 : Hid (LS w O O2 b s s2 oc [(g8, flL (0, 0), 32), (g7, mnL m, 109), (gc, [.int .i64 0], 3), (w.heap.size + 1 + 1, flL (0, 0), 32), (w.heap.size + 1, exL h2 la ln lc, 102), (w.heap.size, exL h ka kn kc, 102)] V9) := HS10.out.front (L1 := [(g7, mnL m, 109)]) (L2 := [(gc, [.int .i64 0], 3), (w.heap.size + 1 + 1, flL (0, 0), 32), (w.heap.size + 1, exL h2 la ln lc, 102), (w.heap.size, exL h ka kn kc, 102)]) rfl
          refine store32_step rfl rfl rfl rfl rfl (HF14.out.blk (List.mem_cons_self ..)) ?_
          intro V12 hV
          have HS13 : Hid (LS w O O2 b s s2 oc [(g8, flL (f1, f2), 32), (g7, mnL m, 109), (gc, [.int .i64 0], 3), (w.heap.size + 1 + 1, flL (0, 0), 32), (w.heap.size + 1, exL h2 la ln lc, 102), (w.heap.size, exL h ka kn kc, 102)] V12) := HF14.out.store32 (f1, f2) hV
          refine hK.out _ _ (fun _ => HSS.out _ _ _ _ _ HS13.out (by simp)) ?_
          clear hK K HS10 hV HF14
          refine wpAnyY_done (by kernel_rfl) ?_ _
          go_wp2_with fail
          go_meet
          exact ⟨g7, g8, mt, mx, mp, mn, f1, f2, rfl, rfl, m, oc, O2, s2, HR.out, HS13.out.sub (by simp) (by have := HS13.out.nd; simp at this ⊢; omega)⟩
        · refine alloc32_step rfl rfl rfl ?_
          intro V15 g8 hV hG
          have HS16 : Hid (LS w O O2 b s s2 oc [(g8, flL (0, 0), 32), (gc, [.int .i64 0], 3), (w.heap.size + 1 + 1, flL (0, 0), 32), (w.heap.size + 1, exL h2 la ln lc, 102), (w.heap.size, exL h ka kn kc, 102)] V15) := HS4.out.allocE (flL (0, 0)) 32 hV hG
          refine hK.out _ _ (fun _ => HSS.out _ _ _ _ _ HS16.out (by simp)) ?_
          clear hK K HS4 hV hG
          simp only [Act.put, List.setIfInBounds_toArray, List.set_cons_succ, List.set_cons_zero]
          refine wpAnyY_one (i := 7) rfl (by kernel_rfl) (fun K hK => ?_)
          refine alloc109_step rfl rfl rfl ?_
          intro V17 g7 hV hG
          have HS18 : Hid (LS w O O2 b s s2 oc [(g7, mnL mn0, 109), (g8, flL (0, 0), 32), (gc, [.int .i64 0], 3), (w.heap.size + 1 + 1, flL (0, 0), 32), (w.heap.size + 1, exL h2 la ln lc, 102), (w.heap.size, exL h ka kn kc, 102)] V17) := HS16.out.allocE (mnL mn0) 109 hV hG
          refine hK.out _ _ (fun _ => HSS.out _ _ _ _ _ HS18.out (by simp)) ?_
          clear hK K HS16 hV hG
          simp only [Act.put, List.setIfInBounds_toArray, List.set_cons_succ, List.set_cons_zero]
          refine wpAnyY_one (i := 9) rfl (by kernel_rfl) (fun K hK => ?_)
          have HF21 : Hid (LS w O O2 b s s2 oc [(g7, mnL mn0, 109), (g8, flL (0, 0), 32), (gc, [.int .i64 0], 3), (w.heap.size + 1 + 1, flL (0, 0), 32), (w.heap.size + 1, exL h2 la ln lc, 102), (w.heap.size, exL h ka kn kc, 102)] V17) := HS18.out.front (L1 := []) (L2 := [(g8, flL (0, 0), 32), (gc, [.int .i64 0], 3), (w.heap.size + 1 + 1, flL (0, 0), 32), (w.heap.size + 1, exL h2 la ln lc, 102), (w.heap.size, exL h ka kn kc, 102)]) rfl
          refine store109_step rfl rfl rfl rfl rfl (HF21.out.blk (List.mem_cons_self ..)) ?_
          intro V19 hV
          have HS20 : Hid (LS w O O2 b s s2 oc [(g7, mnL m, 109), (g8, flL (0, 0), 32), (gc, [.int .i64 0], 3), (w.heap.size + 1 + 1, flL (0, 0), 32), (w.heap.size + 1, exL h2 la ln lc, 102), (w.heap.size, exL h ka kn kc, 102)] V19) := HF21.out.store109 m HR.out.2.2.1.symm (by rw [hV, HR.out.2.1, HR.out.2.2.2.1, HR.out.2.2.2.2])
          refine hK.out _ _ (fun _ => HSS.out _ _ _ _ _ HS20.out (by simp)) ?_
          clear hK K HS18 hV HF21
          refine wpAnyY_one (i := 10) rfl (by kernel_rfl) (fun K hK => ?_)
          have HF24 : Hid (LS w O O2 b s s2 oc [(g8, flL (0, 0), 32), (g7, mnL m, 109), (gc, [.int .i64 0], 3), (w.heap.size + 1 + 1, flL (0, 0), 32), (w.heap.size + 1, exL h2 la ln lc, 102), (w.heap.size, exL h ka kn kc, 102)] V19) := HS20.out.front (L1 := [(g7, mnL m, 109)]) (L2 := [(gc, [.int .i64 0], 3), (w.heap.size + 1 + 1, flL (0, 0), 32), (w.heap.size + 1, exL h2 la ln lc, 102), (w.heap.size, exL h ka kn kc, 102)]) rfl
          refine store32_step rfl rfl rfl rfl rfl (HF24.out.blk (List.mem_cons_self ..)) ?_
          intro V22 hV
          have HS23 : Hid (LS w O O2 b s s2 oc [(g8, flL (f1, f2), 32), (g7, mnL m, 109), (gc, [.int .i64 0], 3), (w.heap.size + 1 + 1, flL (0, 0), 32), (w.heap.size + 1, exL h2 la ln lc, 102), (w.heap.size, exL h ka kn kc, 102)] V22) := HF24.out.store32 (f1, f2) hV
          refine hK.out _ _ (fun _ => HSS.out _ _ _ _ _ HS23.out (by simp)) ?_
          clear hK K HS20 hV HF24
          refine wpAnyY_done (by kernel_rfl) ?_ _
          go_wp2_with fail
          go_meet
          exact ⟨g7, g8, mt, mx, mp, mn, f1, f2, rfl, rfl, m, oc, O2, s2, HR.out, HS23.out.sub (by simp) (by have := HS23.out.nd; simp at this ⊢; omega)⟩
      · refine alloc109_step rfl rfl rfl ?_
        intro V25 g7 hV hG
        have HS26 : Hid (LS w O O1 b s s (some c) [(g7, mnL mn0, 109), (gc, [.int .i64 0], 3), (w.heap.size + 1 + 1, flL (0, 0), 32), (w.heap.size + 1, exL h2 la ln lc, 102), (w.heap.size, exL h ka kn kc, 102)] V25) := HS2.out.allocE (mnL mn0) 109 hV hG
        refine hK.out _ _ (fun _ => HSS.out _ _ _ _ _ HS26.out (by simp)) ?_
        clear hK K HS2 hV hG
        simp only [Act.put, List.setIfInBounds_toArray, List.set_cons_succ, List.set_cons_zero]
        refine wpAnyY_two (i := 3) (j := 8) rfl rfl (by kernel_rfl) (fun K hK => ?_) (fun K hK => ?_)
        · refine call89_step rfl rfl rfl rfl rfl rfl ?_
          refine (HA1.out _ _ _ _ gc HS26.out (by simp)).mono ?_
          rintro e V27 ⟨mt, mx, mp, mn, f1, f2, rfl, hV⟩
          refine ⟨_, rfl, ?_⟩
          obtain ⟨m, oc, O2, s2, hm, hRQ, hLS⟩ := hV.out
          have HS28 : Hid (LS w O O2 b s s2 oc [(g7, mnL mn0, 109), (gc, [.int .i64 0], 3), (w.heap.size + 1 + 1, flL (0, 0), 32), (w.heap.size + 1, exL h2 la ln lc, 102), (w.heap.size, exL h ka kn kc, 102)] V27) := hLS
          have HR : Hid (RQ r1 m (f1, f2) oc ∧ m.isText = mt ∧ bs m.text = mx ∧ m.place = mp ∧ m.num = mn) := ⟨hRQ, hm⟩
          refine hK.out _ _ (fun _ => HSS.out _ _ _ _ _ HS28.out (by simp)) ?_
          clear hK K HS26 hV hm hRQ hLS
          simp only [Act.put, List.setIfInBounds_toArray, List.set_cons_succ, List.set_cons_zero]
          refine wpAnyY_takeD (i := 4) 12 (v := .tuple #[.agg #[.bool mt, .string mx, .int .i64 mp, .int .i64 mn], .agg #[.int .i64 f1, .int .i64 f2]]) rfl rfl (by kernel_rfl) (by kernel_rfl) (late_of (by kernel_rfl)) (by kernel_rfl) (by kernel_rfl) (fun _ _ _ h => h) (HSS.out _ _ _ _ _ HS28.out (by simp)) (Or.inl ⟨by rfl, by (intro W hW; obtain ⟨_, _, _, _, _⟩ := hW; go_simp)⟩) ?_
          simp only [Act.put, List.setIfInBounds_toArray, List.set_cons_succ, List.set_cons_zero]
          refine wpAnyY_takeD (i := 5) 17 (v := .agg #[.bool mt, .string mx, .int .i64 mp, .int .i64 mn]) rfl rfl (by kernel_rfl) (by kernel_rfl) (late_of (by kernel_rfl)) (by kernel_rfl) (by kernel_rfl) (fun _ _ _ h => h) (HSS.out _ _ _ _ _ HS28.out (by simp)) (Or.inl ⟨by rfl, by (intro W hW; obtain ⟨_, _, _, _, _⟩ := hW; go_simp)⟩) ?_
          simp only [Act.put, List.setIfInBounds_toArray, List.set_cons_succ, List.set_cons_zero]
          refine wpAnyY_takeD (i := 6) 18 (v := .agg #[.int .i64 f1, .int .i64 f2]) rfl rfl (by kernel_rfl) (by kernel_rfl) (late_of (by kernel_rfl)) (by kernel_rfl) (by kernel_rfl) (fun _ _ _ h => h) (HSS.out _ _ _ _ _ HS28.out (by simp)) (Or.inl ⟨by rfl, by (intro W hW; obtain ⟨_, _, _, _, _⟩ := hW; go_simp)⟩) ?_
          simp only [Act.put, List.setIfInBounds_toArray, List.set_cons_succ, List.set_cons_zero]
          refine wpAnyY_one (i := 8) rfl (by kernel_rfl) (fun K hK => ?_)
          refine alloc32_step rfl rfl rfl ?_
          intro V29 g8 hV hG
          have HS30 : Hid (LS w O O2 b s s2 oc [(g8, flL (0, 0), 32), (g7, mnL mn0, 109), (gc, [.int .i64 0], 3), (w.heap.size + 1 + 1, flL (0, 0), 32), (w.heap.size + 1, exL h2 la ln lc, 102), (w.heap.size, exL h ka kn kc, 102)] V29) := HS28.out.allocE (flL (0, 0)) 32 hV hG
          refine hK.out _ _ (fun _ => HSS.out _ _ _ _ _ HS30.out (by simp)) ?_
          clear hK K HS28 hV hG
          simp only [Act.put, List.setIfInBounds_toArray, List.set_cons_succ, List.set_cons_zero]
          refine wpAnyY_one (i := 9) rfl (by kernel_rfl) (fun K hK => ?_)
          have HF33 : Hid (LS w O O2 b s s2 oc [(g7, mnL mn0, 109), (g8, flL (0, 0), 32), (gc, [.int .i64 0], 3), (w.heap.size + 1 + 1, flL (0, 0), 32), (w.heap.size + 1, exL h2 la ln lc, 102), (w.heap.size, exL h ka kn kc, 102)] V29) := HS30.out.front (L1 := [(g8, flL (0, 0), 32)]) (L2 := [(gc, [.int .i64 0], 3), (w.heap.size + 1 + 1, flL (0, 0), 32), (w.heap.size + 1, exL h2 la ln lc, 102), (w.heap.size, exL h ka kn kc, 102)]) rfl
          refine store109_step rfl rfl rfl rfl rfl (HF33.out.blk (List.mem_cons_self ..)) ?_
          intro V31 hV
          have HS32 : Hid (LS w O O2 b s s2 oc [(g7, mnL m, 109), (g8, flL (0, 0), 32), (gc, [.int .i64 0], 3), (w.heap.size + 1 + 1, flL (0, 0), 32), (w.heap.size + 1, exL h2 la ln lc, 102), (w.heap.size, exL h ka kn kc, 102)] V31) := HF33.out.store109 m HR.out.2.2.1.symm (by rw [hV, HR.out.2.1, HR.out.2.2.2.1, HR.out.2.2.2.2])
          refine hK.out _ _ (fun _ => HSS.out _ _ _ _ _ HS32.out (by simp)) ?_
          clear hK K HS30 hV HF33
          refine wpAnyY_one (i := 10) rfl (by kernel_rfl) (fun K hK => ?_)
          have HF36 : Hid (LS w O O2 b s s2 oc [(g8, flL (0, 0), 32), (g7, mnL m, 109), (gc, [.int .i64 0], 3), (w.heap.size + 1 + 1, flL (0, 0), 32), (w.heap.size + 1, exL h2 la ln lc, 102), (w.heap.size, exL h ka kn kc, 102)] V31) := HS32.out.front (L1 := [(g7, mnL m, 109)]) (L2 := [(gc, [.int .i64 0], 3), (w.heap.size + 1 + 1, flL (0, 0), 32), (w.heap.size + 1, exL h2 la ln lc, 102), (w.heap.size, exL h ka kn kc, 102)]) rfl
          refine store32_step rfl rfl rfl rfl rfl (HF36.out.blk (List.mem_cons_self ..)) ?_
          intro V34 hV
          have HS35 : Hid (LS w O O2 b s s2 oc [(g8, flL (f1, f2), 32), (g7, mnL m, 109), (gc, [.int .i64 0], 3), (w.heap.size + 1 + 1, flL (0, 0), 32), (w.heap.size + 1, exL h2 la ln lc, 102), (w.heap.size, exL h ka kn kc, 102)] V34) := HF36.out.store32 (f1, f2) hV
          refine hK.out _ _ (fun _ => HSS.out _ _ _ _ _ HS35.out (by simp)) ?_
          clear hK K HS32 hV HF36
          refine wpAnyY_done (by kernel_rfl) ?_ _
          go_wp2_with fail
          go_meet
          exact ⟨g7, g8, mt, mx, mp, mn, f1, f2, rfl, rfl, m, oc, O2, s2, HR.out, HS35.out.sub (by simp) (by have := HS35.out.nd; simp at this ⊢; omega)⟩
        · refine alloc32_step rfl rfl rfl ?_
          intro V37 g8 hV hG
          have HS38 : Hid (LS w O O1 b s s (some c) [(g8, flL (0, 0), 32), (g7, mnL mn0, 109), (gc, [.int .i64 0], 3), (w.heap.size + 1 + 1, flL (0, 0), 32), (w.heap.size + 1, exL h2 la ln lc, 102), (w.heap.size, exL h ka kn kc, 102)] V37) := HS26.out.allocE (flL (0, 0)) 32 hV hG
          refine hK.out _ _ (fun _ => HSS.out _ _ _ _ _ HS38.out (by simp)) ?_
          clear hK K HS26 hV hG
          simp only [Act.put, List.setIfInBounds_toArray, List.set_cons_succ, List.set_cons_zero]
          refine wpAnyY_one (i := 3) rfl (by kernel_rfl) (fun K hK => ?_)
          refine call89_step rfl rfl rfl rfl rfl rfl ?_
          refine (HA1.out _ _ _ _ gc HS38.out (by simp)).mono ?_
          rintro e V39 ⟨mt, mx, mp, mn, f1, f2, rfl, hV⟩
          refine ⟨_, rfl, ?_⟩
          obtain ⟨m, oc, O2, s2, hm, hRQ, hLS⟩ := hV.out
          have HS40 : Hid (LS w O O2 b s s2 oc [(g8, flL (0, 0), 32), (g7, mnL mn0, 109), (gc, [.int .i64 0], 3), (w.heap.size + 1 + 1, flL (0, 0), 32), (w.heap.size + 1, exL h2 la ln lc, 102), (w.heap.size, exL h ka kn kc, 102)] V39) := hLS
          have HR : Hid (RQ r1 m (f1, f2) oc ∧ m.isText = mt ∧ bs m.text = mx ∧ m.place = mp ∧ m.num = mn) := ⟨hRQ, hm⟩
          refine hK.out _ _ (fun _ => HSS.out _ _ _ _ _ HS40.out (by simp)) ?_
          clear hK K HS38 hV hm hRQ hLS
          simp only [Act.put, List.setIfInBounds_toArray, List.set_cons_succ, List.set_cons_zero]
          refine wpAnyY_takeD (i := 4) 12 (v := .tuple #[.agg #[.bool mt, .string mx, .int .i64 mp, .int .i64 mn], .agg #[.int .i64 f1, .int .i64 f2]]) rfl rfl (by kernel_rfl) (by kernel_rfl) (late_of (by kernel_rfl)) (by kernel_rfl) (by kernel_rfl) (fun _ _ _ h => h) (HSS.out _ _ _ _ _ HS40.out (by simp)) (Or.inl ⟨by rfl, by (intro W hW; obtain ⟨_, _, _, _, _⟩ := hW; go_simp)⟩) ?_
          simp only [Act.put, List.setIfInBounds_toArray, List.set_cons_succ, List.set_cons_zero]
          refine wpAnyY_takeD (i := 5) 17 (v := .agg #[.bool mt, .string mx, .int .i64 mp, .int .i64 mn]) rfl rfl (by kernel_rfl) (by kernel_rfl) (late_of (by kernel_rfl)) (by kernel_rfl) (by kernel_rfl) (fun _ _ _ h => h) (HSS.out _ _ _ _ _ HS40.out (by simp)) (Or.inl ⟨by rfl, by (intro W hW; obtain ⟨_, _, _, _, _⟩ := hW; go_simp)⟩) ?_
          simp only [Act.put, List.setIfInBounds_toArray, List.set_cons_succ, List.set_cons_zero]
          refine wpAnyY_takeD (i := 6) 18 (v := .agg #[.int .i64 f1, .int .i64 f2]) rfl rfl (by kernel_rfl) (by kernel_rfl) (late_of (by kernel_rfl)) (by kernel_rfl) (by kernel_rfl) (fun _ _ _ h => h) (HSS.out _ _ _ _ _ HS40.out (by simp)) (Or.inl ⟨by rfl, by (intro W hW; obtain ⟨_, _, _, _, _⟩ := hW; go_simp)⟩) ?_
          simp only [Act.put, List.setIfInBounds_toArray, List.set_cons_succ, List.set_cons_zero]
          refine wpAnyY_one (i := 9) rfl (by kernel_rfl) (fun K hK => ?_)
          have HF43 : Hid (LS w O O2 b s s2 oc [(g7, mnL mn0, 109), (g8, flL (0, 0), 32), (gc, [.int .i64 0], 3), (w.heap.size + 1 + 1, flL (0, 0), 32), (w.heap.size + 1, exL h2 la ln lc, 102), (w.heap.size, exL h ka kn kc, 102)] V39) := HS40.out.front (L1 := [(g8, flL (0, 0), 32)]) (L2 := [(gc, [.int .i64 0], 3), (w.heap.size + 1 + 1, flL (0, 0), 32), (w.heap.size + 1, exL h2 la ln lc, 102), (w.heap.size, exL h ka kn kc, 102)]) rfl
          refine store109_step rfl rfl rfl rfl rfl (HF43.out.blk (List.mem_cons_self ..)) ?_
          intro V41 hV
          have HS42 : Hid (LS w O O2 b s s2 oc [(g7, mnL m, 109), (g8, flL (0, 0), 32), (gc, [.int .i64 0], 3), (w.heap.size + 1 + 1, flL (0, 0), 32), (w.heap.size + 1, exL h2 la ln lc, 102), (w.heap.size, exL h ka kn kc, 102)] V41) := HF43.out.store109 m HR.out.2.2.1.symm (by rw [hV, HR.out.2.1, HR.out.2.2.2.1, HR.out.2.2.2.2])
          refine hK.out _ _ (fun _ => HSS.out _ _ _ _ _ HS42.out (by simp)) ?_
          clear hK K HS40 hV HF43
          refine wpAnyY_one (i := 10) rfl (by kernel_rfl) (fun K hK => ?_)
          have HF46 : Hid (LS w O O2 b s s2 oc [(g8, flL (0, 0), 32), (g7, mnL m, 109), (gc, [.int .i64 0], 3), (w.heap.size + 1 + 1, flL (0, 0), 32), (w.heap.size + 1, exL h2 la ln lc, 102), (w.heap.size, exL h ka kn kc, 102)] V41) := HS42.out.front (L1 := [(g7, mnL m, 109)]) (L2 := [(gc, [.int .i64 0], 3), (w.heap.size + 1 + 1, flL (0, 0), 32), (w.heap.size + 1, exL h2 la ln lc, 102), (w.heap.size, exL h ka kn kc, 102)]) rfl
          refine store32_step rfl rfl rfl rfl rfl (HF46.out.blk (List.mem_cons_self ..)) ?_
          intro V44 hV
          have HS45 : Hid (LS w O O2 b s s2 oc [(g8, flL (f1, f2), 32), (g7, mnL m, 109), (gc, [.int .i64 0], 3), (w.heap.size + 1 + 1, flL (0, 0), 32), (w.heap.size + 1, exL h2 la ln lc, 102), (w.heap.size, exL h ka kn kc, 102)] V44) := HF46.out.store32 (f1, f2) hV
          refine hK.out _ _ (fun _ => HSS.out _ _ _ _ _ HS45.out (by simp)) ?_
          clear hK K HS42 hV HF46
          refine wpAnyY_done (by kernel_rfl) ?_ _
          go_wp2_with fail
          go_meet
          exact ⟨g7, g8, mt, mx, mp, mn, f1, f2, rfl, rfl, m, oc, O2, s2, HR.out, HS45.out.sub (by simp) (by have := HS45.out.nd; simp at this ⊢; omega)⟩
      · refine alloc32_step rfl rfl rfl ?_
        intro V47 g8 hV hG
        have HS48 : Hid (LS w O O1 b s s (some c) [(g8, flL (0, 0), 32), (gc, [.int .i64 0], 3), (w.heap.size + 1 + 1, flL (0, 0), 32), (w.heap.size + 1, exL h2 la ln lc, 102), (w.heap.size, exL h ka kn kc, 102)] V47) := HS2.out.allocE (flL (0, 0)) 32 hV hG
        refine hK.out _ _ (fun _ => HSS.out _ _ _ _ _ HS48.out (by simp)) ?_
        clear hK K HS2 hV hG
        simp only [Act.put, List.setIfInBounds_toArray, List.set_cons_succ, List.set_cons_zero]
        refine wpAnyY_two (i := 3) (j := 7) rfl rfl (by kernel_rfl) (fun K hK => ?_) (fun K hK => ?_)
        · refine call89_step rfl rfl rfl rfl rfl rfl ?_
          refine (HA1.out _ _ _ _ gc HS48.out (by simp)).mono ?_
          rintro e V49 ⟨mt, mx, mp, mn, f1, f2, rfl, hV⟩
          refine ⟨_, rfl, ?_⟩
          obtain ⟨m, oc, O2, s2, hm, hRQ, hLS⟩ := hV.out
          have HS50 : Hid (LS w O O2 b s s2 oc [(g8, flL (0, 0), 32), (gc, [.int .i64 0], 3), (w.heap.size + 1 + 1, flL (0, 0), 32), (w.heap.size + 1, exL h2 la ln lc, 102), (w.heap.size, exL h ka kn kc, 102)] V49) := hLS
          have HR : Hid (RQ r1 m (f1, f2) oc ∧ m.isText = mt ∧ bs m.text = mx ∧ m.place = mp ∧ m.num = mn) := ⟨hRQ, hm⟩
          refine hK.out _ _ (fun _ => HSS.out _ _ _ _ _ HS50.out (by simp)) ?_
          clear hK K HS48 hV hm hRQ hLS
          simp only [Act.put, List.setIfInBounds_toArray, List.set_cons_succ, List.set_cons_zero]
          refine wpAnyY_takeD (i := 4) 12 (v := .tuple #[.agg #[.bool mt, .string mx, .int .i64 mp, .int .i64 mn], .agg #[.int .i64 f1, .int .i64 f2]]) rfl rfl (by kernel_rfl) (by kernel_rfl) (late_of (by kernel_rfl)) (by kernel_rfl) (by kernel_rfl) (fun _ _ _ h => h) (HSS.out _ _ _ _ _ HS50.out (by simp)) (Or.inl ⟨by rfl, by (intro W hW; obtain ⟨_, _, _, _, _⟩ := hW; go_simp)⟩) ?_
          simp only [Act.put, List.setIfInBounds_toArray, List.set_cons_succ, List.set_cons_zero]
          refine wpAnyY_takeD (i := 5) 17 (v := .agg #[.bool mt, .string mx, .int .i64 mp, .int .i64 mn]) rfl rfl (by kernel_rfl) (by kernel_rfl) (late_of (by kernel_rfl)) (by kernel_rfl) (by kernel_rfl) (fun _ _ _ h => h) (HSS.out _ _ _ _ _ HS50.out (by simp)) (Or.inl ⟨by rfl, by (intro W hW; obtain ⟨_, _, _, _, _⟩ := hW; go_simp)⟩) ?_
          simp only [Act.put, List.setIfInBounds_toArray, List.set_cons_succ, List.set_cons_zero]
          refine wpAnyY_takeD (i := 6) 18 (v := .agg #[.int .i64 f1, .int .i64 f2]) rfl rfl (by kernel_rfl) (by kernel_rfl) (late_of (by kernel_rfl)) (by kernel_rfl) (by kernel_rfl) (fun _ _ _ h => h) (HSS.out _ _ _ _ _ HS50.out (by simp)) (Or.inl ⟨by rfl, by (intro W hW; obtain ⟨_, _, _, _, _⟩ := hW; go_simp)⟩) ?_
          simp only [Act.put, List.setIfInBounds_toArray, List.set_cons_succ, List.set_cons_zero]
          refine wpAnyY_one (i := 7) rfl (by kernel_rfl) (fun K hK => ?_)
          refine alloc109_step rfl rfl rfl ?_
          intro V51 g7 hV hG
          have HS52 : Hid (LS w O O2 b s s2 oc [(g7, mnL mn0, 109), (g8, flL (0, 0), 32), (gc, [.int .i64 0], 3), (w.heap.size + 1 + 1, flL (0, 0), 32), (w.heap.size + 1, exL h2 la ln lc, 102), (w.heap.size, exL h ka kn kc, 102)] V51) := HS50.out.allocE (mnL mn0) 109 hV hG
          refine hK.out _ _ (fun _ => HSS.out _ _ _ _ _ HS52.out (by simp)) ?_
          clear hK K HS50 hV hG
          simp only [Act.put, List.setIfInBounds_toArray, List.set_cons_succ, List.set_cons_zero]
          refine wpAnyY_one (i := 9) rfl (by kernel_rfl) (fun K hK => ?_)
          have HF55 : Hid (LS w O O2 b s s2 oc [(g7, mnL mn0, 109), (g8, flL (0, 0), 32), (gc, [.int .i64 0], 3), (w.heap.size + 1 + 1, flL (0, 0), 32), (w.heap.size + 1, exL h2 la ln lc, 102), (w.heap.size, exL h ka kn kc, 102)] V51) := HS52.out.front (L1 := []) (L2 := [(g8, flL (0, 0), 32), (gc, [.int .i64 0], 3), (w.heap.size + 1 + 1, flL (0, 0), 32), (w.heap.size + 1, exL h2 la ln lc, 102), (w.heap.size, exL h ka kn kc, 102)]) rfl
          refine store109_step rfl rfl rfl rfl rfl (HF55.out.blk (List.mem_cons_self ..)) ?_
          intro V53 hV
          have HS54 : Hid (LS w O O2 b s s2 oc [(g7, mnL m, 109), (g8, flL (0, 0), 32), (gc, [.int .i64 0], 3), (w.heap.size + 1 + 1, flL (0, 0), 32), (w.heap.size + 1, exL h2 la ln lc, 102), (w.heap.size, exL h ka kn kc, 102)] V53) := HF55.out.store109 m HR.out.2.2.1.symm (by rw [hV, HR.out.2.1, HR.out.2.2.2.1, HR.out.2.2.2.2])
          refine hK.out _ _ (fun _ => HSS.out _ _ _ _ _ HS54.out (by simp)) ?_
          clear hK K HS52 hV HF55
          refine wpAnyY_one (i := 10) rfl (by kernel_rfl) (fun K hK => ?_)
          have HF58 : Hid (LS w O O2 b s s2 oc [(g8, flL (0, 0), 32), (g7, mnL m, 109), (gc, [.int .i64 0], 3), (w.heap.size + 1 + 1, flL (0, 0), 32), (w.heap.size + 1, exL h2 la ln lc, 102), (w.heap.size, exL h ka kn kc, 102)] V53) := HS54.out.front (L1 := [(g7, mnL m, 109)]) (L2 := [(gc, [.int .i64 0], 3), (w.heap.size + 1 + 1, flL (0, 0), 32), (w.heap.size + 1, exL h2 la ln lc, 102), (w.heap.size, exL h ka kn kc, 102)]) rfl
          refine store32_step rfl rfl rfl rfl rfl (HF58.out.blk (List.mem_cons_self ..)) ?_
          intro V56 hV
          have HS57 : Hid (LS w O O2 b s s2 oc [(g8, flL (f1, f2), 32), (g7, mnL m, 109), (gc, [.int .i64 0], 3), (w.heap.size + 1 + 1, flL (0, 0), 32), (w.heap.size + 1, exL h2 la ln lc, 102), (w.heap.size, exL h ka kn kc, 102)] V56) := HF58.out.store32 (f1, f2) hV
          refine hK.out _ _ (fun _ => HSS.out _ _ _ _ _ HS57.out (by simp)) ?_
          clear hK K HS54 hV HF58
          refine wpAnyY_done (by kernel_rfl) ?_ _
          go_wp2_with fail
          go_meet
          exact ⟨g7, g8, mt, mx, mp, mn, f1, f2, rfl, rfl, m, oc, O2, s2, HR.out, HS57.out.sub (by simp) (by have := HS57.out.nd; simp at this ⊢; omega)⟩
        · refine alloc109_step rfl rfl rfl ?_
          intro V59 g7 hV hG
          have HS60 : Hid (LS w O O1 b s s (some c) [(g7, mnL mn0, 109), (g8, flL (0, 0), 32), (gc, [.int .i64 0], 3), (w.heap.size + 1 + 1, flL (0, 0), 32), (w.heap.size + 1, exL h2 la ln lc, 102), (w.heap.size, exL h ka kn kc, 102)] V59) := HS48.out.allocE (mnL mn0) 109 hV hG
          refine hK.out _ _ (fun _ => HSS.out _ _ _ _ _ HS60.out (by simp)) ?_
          clear hK K HS48 hV hG
          simp only [Act.put, List.setIfInBounds_toArray, List.set_cons_succ, List.set_cons_zero]
          refine wpAnyY_one (i := 3) rfl (by kernel_rfl) (fun K hK => ?_)
          refine call89_step rfl rfl rfl rfl rfl rfl ?_
          refine (HA1.out _ _ _ _ gc HS60.out (by simp)).mono ?_
          rintro e V61 ⟨mt, mx, mp, mn, f1, f2, rfl, hV⟩
          refine ⟨_, rfl, ?_⟩
          obtain ⟨m, oc, O2, s2, hm, hRQ, hLS⟩ := hV.out
          have HS62 : Hid (LS w O O2 b s s2 oc [(g7, mnL mn0, 109), (g8, flL (0, 0), 32), (gc, [.int .i64 0], 3), (w.heap.size + 1 + 1, flL (0, 0), 32), (w.heap.size + 1, exL h2 la ln lc, 102), (w.heap.size, exL h ka kn kc, 102)] V61) := hLS
          have HR : Hid (RQ r1 m (f1, f2) oc ∧ m.isText = mt ∧ bs m.text = mx ∧ m.place = mp ∧ m.num = mn) := ⟨hRQ, hm⟩
          refine hK.out _ _ (fun _ => HSS.out _ _ _ _ _ HS62.out (by simp)) ?_
          clear hK K HS60 hV hm hRQ hLS
          simp only [Act.put, List.setIfInBounds_toArray, List.set_cons_succ, List.set_cons_zero]
          refine wpAnyY_takeD (i := 4) 12 (v := .tuple #[.agg #[.bool mt, .string mx, .int .i64 mp, .int .i64 mn], .agg #[.int .i64 f1, .int .i64 f2]]) rfl rfl (by kernel_rfl) (by kernel_rfl) (late_of (by kernel_rfl)) (by kernel_rfl) (by kernel_rfl) (fun _ _ _ h => h) (HSS.out _ _ _ _ _ HS62.out (by simp)) (Or.inl ⟨by rfl, by (intro W hW; obtain ⟨_, _, _, _, _⟩ := hW; go_simp)⟩) ?_
          simp only [Act.put, List.setIfInBounds_toArray, List.set_cons_succ, List.set_cons_zero]
          refine wpAnyY_takeD (i := 5) 17 (v := .agg #[.bool mt, .string mx, .int .i64 mp, .int .i64 mn]) rfl rfl (by kernel_rfl) (by kernel_rfl) (late_of (by kernel_rfl)) (by kernel_rfl) (by kernel_rfl) (fun _ _ _ h => h) (HSS.out _ _ _ _ _ HS62.out (by simp)) (Or.inl ⟨by rfl, by (intro W hW; obtain ⟨_, _, _, _, _⟩ := hW; go_simp)⟩) ?_
          simp only [Act.put, List.setIfInBounds_toArray, List.set_cons_succ, List.set_cons_zero]
          refine wpAnyY_takeD (i := 6) 18 (v := .agg #[.int .i64 f1, .int .i64 f2]) rfl rfl (by kernel_rfl) (by kernel_rfl) (late_of (by kernel_rfl)) (by kernel_rfl) (by kernel_rfl) (fun _ _ _ h => h) (HSS.out _ _ _ _ _ HS62.out (by simp)) (Or.inl ⟨by rfl, by (intro W hW; obtain ⟨_, _, _, _, _⟩ := hW; go_simp)⟩) ?_
          simp only [Act.put, List.setIfInBounds_toArray, List.set_cons_succ, List.set_cons_zero]
          refine wpAnyY_one (i := 9) rfl (by kernel_rfl) (fun K hK => ?_)
          have HF65 : Hid (LS w O O2 b s s2 oc [(g7, mnL mn0, 109), (g8, flL (0, 0), 32), (gc, [.int .i64 0], 3), (w.heap.size + 1 + 1, flL (0, 0), 32), (w.heap.size + 1, exL h2 la ln lc, 102), (w.heap.size, exL h ka kn kc, 102)] V61) := HS62.out.front (L1 := []) (L2 := [(g8, flL (0, 0), 32), (gc, [.int .i64 0], 3), (w.heap.size + 1 + 1, flL (0, 0), 32), (w.heap.size + 1, exL h2 la ln lc, 102), (w.heap.size, exL h ka kn kc, 102)]) rfl
          refine store109_step rfl rfl rfl rfl rfl (HF65.out.blk (List.mem_cons_self ..)) ?_
          intro V63 hV
          have HS64 : Hid (LS w O O2 b s s2 oc [(g7, mnL m, 109), (g8, flL (0, 0), 32), (gc, [.int .i64 0], 3), (w.heap.size + 1 + 1, flL (0, 0), 32), (w.heap.size + 1, exL h2 la ln lc, 102), (w.heap.size, exL h ka kn kc, 102)] V63) := HF65.out.store109 m HR.out.2.2.1.symm (by rw [hV, HR.out.2.1, HR.out.2.2.2.1, HR.out.2.2.2.2])
          refine hK.out _ _ (fun _ => HSS.out _ _ _ _ _ HS64.out (by simp)) ?_
          clear hK K HS62 hV HF65
          refine wpAnyY_one (i := 10) rfl (by kernel_rfl) (fun K hK => ?_)
          have HF68 : Hid (LS w O O2 b s s2 oc [(g8, flL (0, 0), 32), (g7, mnL m, 109), (gc, [.int .i64 0], 3), (w.heap.size + 1 + 1, flL (0, 0), 32), (w.heap.size + 1, exL h2 la ln lc, 102), (w.heap.size, exL h ka kn kc, 102)] V63) := HS64.out.front (L1 := [(g7, mnL m, 109)]) (L2 := [(gc, [.int .i64 0], 3), (w.heap.size + 1 + 1, flL (0, 0), 32), (w.heap.size + 1, exL h2 la ln lc, 102), (w.heap.size, exL h ka kn kc, 102)]) rfl
          refine store32_step rfl rfl rfl rfl rfl (HF68.out.blk (List.mem_cons_self ..)) ?_
          intro V66 hV
          have HS67 : Hid (LS w O O2 b s s2 oc [(g8, flL (f1, f2), 32), (g7, mnL m, 109), (gc, [.int .i64 0], 3), (w.heap.size + 1 + 1, flL (0, 0), 32), (w.heap.size + 1, exL h2 la ln lc, 102), (w.heap.size, exL h ka kn kc, 102)] V66) := HF68.out.store32 (f1, f2) hV
          refine hK.out _ _ (fun _ => HSS.out _ _ _ _ _ HS67.out (by simp)) ?_
          clear hK K HS64 hV HF68
          refine wpAnyY_done (by kernel_rfl) ?_ _
          go_wp2_with fail
          go_meet
          exact ⟨g7, g8, mt, mx, mp, mn, f1, f2, rfl, rfl, m, oc, O2, s2, HR.out, HS67.out.sub (by simp) (by have := HS67.out.nd; simp at this ⊢; omega)⟩
    · refine alloc109_step rfl rfl rfl ?_
      intro V69 g7 hV hG
      have HS70 : Hid (LS w O O1 b s s (some c) [(g7, mnL mn0, 109), (w.heap.size + 1 + 1, flL (0, 0), 32), (w.heap.size + 1, exL h2 la ln lc, 102), (w.heap.size, exL h ka kn kc, 102)] V69) := HS0.out.allocE (mnL mn0) 109 hV hG
      refine hK.out _ _ (fun _ => HSS.out _ _ _ _ _ HS70.out (by simp)) ?_
      clear hK K HS0 hV hG
      simp only [Act.put, List.setIfInBounds_toArray, List.set_cons_succ, List.set_cons_zero]
      refine wpAnyY_two (i := 2) (j := 8) rfl rfl (by kernel_rfl) (fun K hK => ?_) (fun K hK => ?_)
      · refine call95c_step rfl rfl rfl ?_
        intro V71 gc hV hG
        have HS72 : Hid (LS w O O1 b s s (some c) [(gc, [.int .i64 0], 3), (g7, mnL mn0, 109), (w.heap.size + 1 + 1, flL (0, 0), 32), (w.heap.size + 1, exL h2 la ln lc, 102), (w.heap.size, exL h ka kn kc, 102)] V71) := HS70.out.allocE _ 3 hV hG
        refine hK.out _ _ (fun _ => HSS.out _ _ _ _ _ HS72.out (by simp)) ?_
        clear hK K HS70 hV hG
        simp only [Act.put, List.setIfInBounds_toArray, List.set_cons_succ, List.set_cons_zero]
        refine wpAnyY_two (i := 3) (j := 8) rfl rfl (by kernel_rfl) (fun K hK => ?_) (fun K hK => ?_)
        · refine call89_step rfl rfl rfl rfl rfl rfl ?_
          refine (HA1.out _ _ _ _ gc HS72.out (by simp)).mono ?_
          rintro e V73 ⟨mt, mx, mp, mn, f1, f2, rfl, hV⟩
          refine ⟨_, rfl, ?_⟩
          obtain ⟨m, oc, O2, s2, hm, hRQ, hLS⟩ := hV.out
          have HS74 : Hid (LS w O O2 b s s2 oc [(gc, [.int .i64 0], 3), (g7, mnL mn0, 109), (w.heap.size + 1 + 1, flL (0, 0), 32), (w.heap.size + 1, exL h2 la ln lc, 102), (w.heap.size, exL h ka kn kc, 102)] V73) := hLS
          have HR : Hid (RQ r1 m (f1, f2) oc ∧ m.isText = mt ∧ bs m.text = mx ∧ m.place = mp ∧ m.num = mn) := ⟨hRQ, hm⟩
          refine hK.out _ _ (fun _ => HSS.out _ _ _ _ _ HS74.out (by simp)) ?_
          clear hK K HS72 hV hm hRQ hLS
          simp only [Act.put, List.setIfInBounds_toArray, List.set_cons_succ, List.set_cons_zero]
          refine wpAnyY_takeD (i := 4) 12 (v := .tuple #[.agg #[.bool mt, .string mx, .int .i64 mp, .int .i64 mn], .agg #[.int .i64 f1, .int .i64 f2]]) rfl rfl (by kernel_rfl) (by kernel_rfl) (late_of (by kernel_rfl)) (by kernel_rfl) (by kernel_rfl) (fun _ _ _ h => h) (HSS.out _ _ _ _ _ HS74.out (by simp)) (Or.inl ⟨by rfl, by (intro W hW; obtain ⟨_, _, _, _, _⟩ := hW; go_simp)⟩) ?_
          simp only [Act.put, List.setIfInBounds_toArray, List.set_cons_succ, List.set_cons_zero]
          refine wpAnyY_takeD (i := 5) 17 (v := .agg #[.bool mt, .string mx, .int .i64 mp, .int .i64 mn]) rfl rfl (by kernel_rfl) (by kernel_rfl) (late_of (by kernel_rfl)) (by kernel_rfl) (by kernel_rfl) (fun _ _ _ h => h) (HSS.out _ _ _ _ _ HS74.out (by simp)) (Or.inl ⟨by rfl, by (intro W hW; obtain ⟨_, _, _, _, _⟩ := hW; go_simp)⟩) ?_
          simp only [Act.put, List.setIfInBounds_toArray, List.set_cons_succ, List.set_cons_zero]
          refine wpAnyY_takeD (i := 6) 18 (v := .agg #[.int .i64 f1, .int .i64 f2]) rfl rfl (by kernel_rfl) (by kernel_rfl) (late_of (by kernel_rfl)) (by kernel_rfl) (by kernel_rfl) (fun _ _ _ h => h) (HSS.out _ _ _ _ _ HS74.out (by simp)) (Or.inl ⟨by rfl, by (intro W hW; obtain ⟨_, _, _, _, _⟩ := hW; go_simp)⟩) ?_
          simp only [Act.put, List.setIfInBounds_toArray, List.set_cons_succ, List.set_cons_zero]
          refine wpAnyY_one (i := 8) rfl (by kernel_rfl) (fun K hK => ?_)
          refine alloc32_step rfl rfl rfl ?_
          intro V75 g8 hV hG
          have HS76 : Hid (LS w O O2 b s s2 oc [(g8, flL (0, 0), 32), (gc, [.int .i64 0], 3), (g7, mnL mn0, 109), (w.heap.size + 1 + 1, flL (0, 0), 32), (w.heap.size + 1, exL h2 la ln lc, 102), (w.heap.size, exL h ka kn kc, 102)] V75) := HS74.out.allocE (flL (0, 0)) 32 hV hG
          refine hK.out _ _ (fun _ => HSS.out _ _ _ _ _ HS76.out (by simp)) ?_
          clear hK K HS74 hV hG
          simp only [Act.put, List.setIfInBounds_toArray, List.set_cons_succ, List.set_cons_zero]
          refine wpAnyY_one (i := 9) rfl (by kernel_rfl) (fun K hK => ?_)
          have HF79 : Hid (LS w O O2 b s s2 oc [(g7, mnL mn0, 109), (g8, flL (0, 0), 32), (gc, [.int .i64 0], 3), (w.heap.size + 1 + 1, flL (0, 0), 32), (w.heap.size + 1, exL h2 la ln lc, 102), (w.heap.size, exL h ka kn kc, 102)] V75) := HS76.out.front (L1 := [(g8, flL (0, 0), 32), (gc, [.int .i64 0], 3)]) (L2 := [(w.heap.size + 1 + 1, flL (0, 0), 32), (w.heap.size + 1, exL h2 la ln lc, 102), (w.heap.size, exL h ka kn kc, 102)]) rfl
          refine store109_step rfl rfl rfl rfl rfl (HF79.out.blk (List.mem_cons_self ..)) ?_
          intro V77 hV
          have HS78 : Hid (LS w O O2 b s s2 oc [(g7, mnL m, 109), (g8, flL (0, 0), 32), (gc, [.int .i64 0], 3), (w.heap.size + 1 + 1, flL (0, 0), 32), (w.heap.size + 1, exL h2 la ln lc, 102), (w.heap.size, exL h ka kn kc, 102)] V77) := HF79.out.store109 m HR.out.2.2.1.symm (by rw [hV, HR.out.2.1, HR.out.2.2.2.1, HR.out.2.2.2.2])
          refine hK.out _ _ (fun _ => HSS.out _ _ _ _ _ HS78.out (by simp)) ?_
          clear hK K HS76 hV HF79
          refine wpAnyY_one (i := 10) rfl (by kernel_rfl) (fun K hK => ?_)
          have HF82 : Hid (LS w O O2 b s s2 oc [(g8, flL (0, 0), 32), (g7, mnL m, 109), (gc, [.int .i64 0], 3), (w.heap.size + 1 + 1, flL (0, 0), 32), (w.heap.size + 1, exL h2 la ln lc, 102), (w.heap.size, exL h ka kn kc, 102)] V77) := HS78.out.front (L1 := [(g7, mnL m, 109)]) (L2 := [(gc, [.int .i64 0], 3), (w.heap.size + 1 + 1, flL (0, 0), 32), (w.heap.size + 1, exL h2 la ln lc, 102), (w.heap.size, exL h ka kn kc, 102)]) rfl
          refine store32_step rfl rfl rfl rfl rfl (HF82.out.blk (List.mem_cons_self ..)) ?_
          intro V80 hV
          have HS81 : Hid (LS w O O2 b s s2 oc [(g8, flL (f1, f2), 32), (g7, mnL m, 109), (gc, [.int .i64 0], 3), (w.heap.size + 1 + 1, flL (0, 0), 32), (w.heap.size + 1, exL h2 la ln lc, 102), (w.heap.size, exL h ka kn kc, 102)] V80) := HF82.out.store32 (f1, f2) hV
          refine hK.out _ _ (fun _ => HSS.out _ _ _ _ _ HS81.out (by simp)) ?_
          clear hK K HS78 hV HF82
          refine wpAnyY_done (by kernel_rfl) ?_ _
          go_wp2_with fail
          go_meet
          exact ⟨g7, g8, mt, mx, mp, mn, f1, f2, rfl, rfl, m, oc, O2, s2, HR.out, HS81.out.sub (by simp) (by have := HS81.out.nd; simp at this ⊢; omega)⟩
        · refine alloc32_step rfl rfl rfl ?_
          intro V83 g8 hV hG
          have HS84 : Hid (LS w O O1 b s s (some c) [(g8, flL (0, 0), 32), (gc, [.int .i64 0], 3), (g7, mnL mn0, 109), (w.heap.size + 1 + 1, flL (0, 0), 32), (w.heap.size + 1, exL h2 la ln lc, 102), (w.heap.size, exL h ka kn kc, 102)] V83) := HS72.out.allocE (flL (0, 0)) 32 hV hG
          refine hK.out _ _ (fun _ => HSS.out _ _ _ _ _ HS84.out (by simp)) ?_
          clear hK K HS72 hV hG
          simp only [Act.put, List.setIfInBounds_toArray, List.set_cons_succ, List.set_cons_zero]
          refine wpAnyY_one (i := 3) rfl (by kernel_rfl) (fun K hK => ?_)
          refine call89_step rfl rfl rfl rfl rfl rfl ?_
          refine (HA1.out _ _ _ _ gc HS84.out (by simp)).mono ?_
          rintro e V85 ⟨mt, mx, mp, mn, f1, f2, rfl, hV⟩
          refine ⟨_, rfl, ?_⟩
          obtain ⟨m, oc, O2, s2, hm, hRQ, hLS⟩ := hV.out
          have HS86 : Hid (LS w O O2 b s s2 oc [(g8, flL (0, 0), 32), (gc, [.int .i64 0], 3), (g7, mnL mn0, 109), (w.heap.size + 1 + 1, flL (0, 0), 32), (w.heap.size + 1, exL h2 la ln lc, 102), (w.heap.size, exL h ka kn kc, 102)] V85) := hLS
          have HR : Hid (RQ r1 m (f1, f2) oc ∧ m.isText = mt ∧ bs m.text = mx ∧ m.place = mp ∧ m.num = mn) := ⟨hRQ, hm⟩
          refine hK.out _ _ (fun _ => HSS.out _ _ _ _ _ HS86.out (by simp)) ?_
          clear hK K HS84 hV hm hRQ hLS
          simp only [Act.put, List.setIfInBounds_toArray, List.set_cons_succ, List.set_cons_zero]
          refine wpAnyY_takeD (i := 4) 12 (v := .tuple #[.agg #[.bool mt, .string mx, .int .i64 mp, .int .i64 mn], .agg #[.int .i64 f1, .int .i64 f2]]) rfl rfl (by kernel_rfl) (by kernel_rfl) (late_of (by kernel_rfl)) (by kernel_rfl) (by kernel_rfl) (fun _ _ _ h => h) (HSS.out _ _ _ _ _ HS86.out (by simp)) (Or.inl ⟨by rfl, by (intro W hW; obtain ⟨_, _, _, _, _⟩ := hW; go_simp)⟩) ?_
          simp only [Act.put, List.setIfInBounds_toArray, List.set_cons_succ, List.set_cons_zero]
          refine wpAnyY_takeD (i := 5) 17 (v := .agg #[.bool mt, .string mx, .int .i64 mp, .int .i64 mn]) rfl rfl (by kernel_rfl) (by kernel_rfl) (late_of (by kernel_rfl)) (by kernel_rfl) (by kernel_rfl) (fun _ _ _ h => h) (HSS.out _ _ _ _ _ HS86.out (by simp)) (Or.inl ⟨by rfl, by (intro W hW; obtain ⟨_, _, _, _, _⟩ := hW; go_simp)⟩) ?_
          simp only [Act.put, List.setIfInBounds_toArray, List.set_cons_succ, List.set_cons_zero]
          refine wpAnyY_takeD (i := 6) 18 (v := .agg #[.int .i64 f1, .int .i64 f2]) rfl rfl (by kernel_rfl) (by kernel_rfl) (late_of (by kernel_rfl)) (by kernel_rfl) (by kernel_rfl) (fun _ _ _ h => h) (HSS.out _ _ _ _ _ HS86.out (by simp)) (Or.inl ⟨by rfl, by (intro W hW; obtain ⟨_, _, _, _, _⟩ := hW; go_simp)⟩) ?_
          simp only [Act.put, List.setIfInBounds_toArray, List.set_cons_succ, List.set_cons_zero]
          refine wpAnyY_one (i := 9) rfl (by kernel_rfl) (fun K hK => ?_)
          have HF89 : Hid (LS w O O2 b s s2 oc [(g7, mnL mn0, 109), (g8, flL (0, 0), 32), (gc, [.int .i64 0], 3), (w.heap.size + 1 + 1, flL (0, 0), 32), (w.heap.size + 1, exL h2 la ln lc, 102), (w.heap.size, exL h ka kn kc, 102)] V85) := HS86.out.front (L1 := [(g8, flL (0, 0), 32), (gc, [.int .i64 0], 3)]) (L2 := [(w.heap.size + 1 + 1, flL (0, 0), 32), (w.heap.size + 1, exL h2 la ln lc, 102), (w.heap.size, exL h ka kn kc, 102)]) rfl
          refine store109_step rfl rfl rfl rfl rfl (HF89.out.blk (List.mem_cons_self ..)) ?_
          intro V87 hV
          have HS88 : Hid (LS w O O2 b s s2 oc [(g7, mnL m, 109), (g8, flL (0, 0), 32), (gc, [.int .i64 0], 3), (w.heap.size + 1 + 1, flL (0, 0), 32), (w.heap.size + 1, exL h2 la ln lc, 102), (w.heap.size, exL h ka kn kc, 102)] V87) := HF89.out.store109 m HR.out.2.2.1.symm (by rw [hV, HR.out.2.1, HR.out.2.2.2.1, HR.out.2.2.2.2])
          refine hK.out _ _ (fun _ => HSS.out _ _ _ _ _ HS88.out (by simp)) ?_
          clear hK K HS86 hV HF89
          refine wpAnyY_one (i := 10) rfl (by kernel_rfl) (fun K hK => ?_)
          have HF92 : Hid (LS w O O2 b s s2 oc [(g8, flL (0, 0), 32), (g7, mnL m, 109), (gc, [.int .i64 0], 3), (w.heap.size + 1 + 1, flL (0, 0), 32), (w.heap.size + 1, exL h2 la ln lc, 102), (w.heap.size, exL h ka kn kc, 102)] V87) := HS88.out.front (L1 := [(g7, mnL m, 109)]) (L2 := [(gc, [.int .i64 0], 3), (w.heap.size + 1 + 1, flL (0, 0), 32), (w.heap.size + 1, exL h2 la ln lc, 102), (w.heap.size, exL h ka kn kc, 102)]) rfl
          refine store32_step rfl rfl rfl rfl rfl (HF92.out.blk (List.mem_cons_self ..)) ?_
          intro V90 hV
          have HS91 : Hid (LS w O O2 b s s2 oc [(g8, flL (f1, f2), 32), (g7, mnL m, 109), (gc, [.int .i64 0], 3), (w.heap.size + 1 + 1, flL (0, 0), 32), (w.heap.size + 1, exL h2 la ln lc, 102), (w.heap.size, exL h ka kn kc, 102)] V90) := HF92.out.store32 (f1, f2) hV
          refine hK.out _ _ (fun _ => HSS.out _ _ _ _ _ HS91.out (by simp)) ?_
          clear hK K HS88 hV HF92
          refine wpAnyY_done (by kernel_rfl) ?_ _
          go_wp2_with fail
          go_meet
          exact ⟨g7, g8, mt, mx, mp, mn, f1, f2, rfl, rfl, m, oc, O2, s2, HR.out, HS91.out.sub (by simp) (by have := HS91.out.nd; simp at this ⊢; omega)⟩
      · refine alloc32_step rfl rfl rfl ?_
        intro V93 g8 hV hG
        have HS94 : Hid (LS w O O1 b s s (some c) [(g8, flL (0, 0), 32), (g7, mnL mn0, 109), (w.heap.size + 1 + 1, flL (0, 0), 32), (w.heap.size + 1, exL h2 la ln lc, 102), (w.heap.size, exL h ka kn kc, 102)] V93) := HS70.out.allocE (flL (0, 0)) 32 hV hG
        refine hK.out _ _ (fun _ => HSS.out _ _ _ _ _ HS94.out (by simp)) ?_
        clear hK K HS70 hV hG
        simp only [Act.put, List.setIfInBounds_toArray, List.set_cons_succ, List.set_cons_zero]
        refine wpAnyY_one (i := 2) rfl (by kernel_rfl) (fun K hK => ?_)
        refine call95c_step rfl rfl rfl ?_
        intro V95 gc hV hG
        have HS96 : Hid (LS w O O1 b s s (some c) [(gc, [.int .i64 0], 3), (g8, flL (0, 0), 32), (g7, mnL mn0, 109), (w.heap.size + 1 + 1, flL (0, 0), 32), (w.heap.size + 1, exL h2 la ln lc, 102), (w.heap.size, exL h ka kn kc, 102)] V95) := HS94.out.allocE _ 3 hV hG
        refine hK.out _ _ (fun _ => HSS.out _ _ _ _ _ HS96.out (by simp)) ?_
        clear hK K HS94 hV hG
        simp only [Act.put, List.setIfInBounds_toArray, List.set_cons_succ, List.set_cons_zero]
        refine wpAnyY_one (i := 3) rfl (by kernel_rfl) (fun K hK => ?_)
        refine call89_step rfl rfl rfl rfl rfl rfl ?_
        refine (HA1.out _ _ _ _ gc HS96.out (by simp)).mono ?_
        rintro e V97 ⟨mt, mx, mp, mn, f1, f2, rfl, hV⟩
        refine ⟨_, rfl, ?_⟩
        obtain ⟨m, oc, O2, s2, hm, hRQ, hLS⟩ := hV.out
        have HS98 : Hid (LS w O O2 b s s2 oc [(gc, [.int .i64 0], 3), (g8, flL (0, 0), 32), (g7, mnL mn0, 109), (w.heap.size + 1 + 1, flL (0, 0), 32), (w.heap.size + 1, exL h2 la ln lc, 102), (w.heap.size, exL h ka kn kc, 102)] V97) := hLS
        have HR : Hid (RQ r1 m (f1, f2) oc ∧ m.isText = mt ∧ bs m.text = mx ∧ m.place = mp ∧ m.num = mn) := ⟨hRQ, hm⟩
        refine hK.out _ _ (fun _ => HSS.out _ _ _ _ _ HS98.out (by simp)) ?_
        clear hK K HS96 hV hm hRQ hLS
        simp only [Act.put, List.setIfInBounds_toArray, List.set_cons_succ, List.set_cons_zero]
        refine wpAnyY_takeD (i := 4) 12 (v := .tuple #[.agg #[.bool mt, .string mx, .int .i64 mp, .int .i64 mn], .agg #[.int .i64 f1, .int .i64 f2]]) rfl rfl (by kernel_rfl) (by kernel_rfl) (late_of (by kernel_rfl)) (by kernel_rfl) (by kernel_rfl) (fun _ _ _ h => h) (HSS.out _ _ _ _ _ HS98.out (by simp)) (Or.inl ⟨by rfl, by (intro W hW; obtain ⟨_, _, _, _, _⟩ := hW; go_simp)⟩) ?_
        simp only [Act.put, List.setIfInBounds_toArray, List.set_cons_succ, List.set_cons_zero]
        refine wpAnyY_takeD (i := 5) 17 (v := .agg #[.bool mt, .string mx, .int .i64 mp, .int .i64 mn]) rfl rfl (by kernel_rfl) (by kernel_rfl) (late_of (by kernel_rfl)) (by kernel_rfl) (by kernel_rfl) (fun _ _ _ h => h) (HSS.out _ _ _ _ _ HS98.out (by simp)) (Or.inl ⟨by rfl, by (intro W hW; obtain ⟨_, _, _, _, _⟩ := hW; go_simp)⟩) ?_
        simp only [Act.put, List.setIfInBounds_toArray, List.set_cons_succ, List.set_cons_zero]
        refine wpAnyY_takeD (i := 6) 18 (v := .agg #[.int .i64 f1, .int .i64 f2]) rfl rfl (by kernel_rfl) (by kernel_rfl) (late_of (by kernel_rfl)) (by kernel_rfl) (by kernel_rfl) (fun _ _ _ h => h) (HSS.out _ _ _ _ _ HS98.out (by simp)) (Or.inl ⟨by rfl, by (intro W hW; obtain ⟨_, _, _, _, _⟩ := hW; go_simp)⟩) ?_
        simp only [Act.put, List.setIfInBounds_toArray, List.set_cons_succ, List.set_cons_zero]
        refine wpAnyY_one (i := 9) rfl (by kernel_rfl) (fun K hK => ?_)
        have HF101 : Hid (LS w O O2 b s s2 oc [(g7, mnL mn0, 109), (gc, [.int .i64 0], 3), (g8, flL (0, 0), 32), (w.heap.size + 1 + 1, flL (0, 0), 32), (w.heap.size + 1, exL h2 la ln lc, 102), (w.heap.size, exL h ka kn kc, 102)] V97) := HS98.out.front (L1 := [(gc, [.int .i64 0], 3), (g8, flL (0, 0), 32)]) (L2 := [(w.heap.size + 1 + 1, flL (0, 0), 32), (w.heap.size + 1, exL h2 la ln lc, 102), (w.heap.size, exL h ka kn kc, 102)]) rfl
        refine store109_step rfl rfl rfl rfl rfl (HF101.out.blk (List.mem_cons_self ..)) ?_
        intro V99 hV
        have HS100 : Hid (LS w O O2 b s s2 oc [(g7, mnL m, 109), (gc, [.int .i64 0], 3), (g8, flL (0, 0), 32), (w.heap.size + 1 + 1, flL (0, 0), 32), (w.heap.size + 1, exL h2 la ln lc, 102), (w.heap.size, exL h ka kn kc, 102)] V99) := HF101.out.store109 m HR.out.2.2.1.symm (by rw [hV, HR.out.2.1, HR.out.2.2.2.1, HR.out.2.2.2.2])
        refine hK.out _ _ (fun _ => HSS.out _ _ _ _ _ HS100.out (by simp)) ?_
        clear hK K HS98 hV HF101
        refine wpAnyY_one (i := 10) rfl (by kernel_rfl) (fun K hK => ?_)
        have HF104 : Hid (LS w O O2 b s s2 oc [(g8, flL (0, 0), 32), (g7, mnL m, 109), (gc, [.int .i64 0], 3), (w.heap.size + 1 + 1, flL (0, 0), 32), (w.heap.size + 1, exL h2 la ln lc, 102), (w.heap.size, exL h ka kn kc, 102)] V99) := HS100.out.front (L1 := [(g7, mnL m, 109), (gc, [.int .i64 0], 3)]) (L2 := [(w.heap.size + 1 + 1, flL (0, 0), 32), (w.heap.size + 1, exL h2 la ln lc, 102), (w.heap.size, exL h ka kn kc, 102)]) rfl
        refine store32_step rfl rfl rfl rfl rfl (HF104.out.blk (List.mem_cons_self ..)) ?_
        intro V102 hV
        have HS103 : Hid (LS w O O2 b s s2 oc [(g8, flL (f1, f2), 32), (g7, mnL m, 109), (gc, [.int .i64 0], 3), (w.heap.size + 1 + 1, flL (0, 0), 32), (w.heap.size + 1, exL h2 la ln lc, 102), (w.heap.size, exL h ka kn kc, 102)] V102) := HF104.out.store32 (f1, f2) hV
        refine hK.out _ _ (fun _ => HSS.out _ _ _ _ _ HS103.out (by simp)) ?_
        clear hK K HS100 hV HF104
        refine wpAnyY_done (by kernel_rfl) ?_ _
        go_wp2_with fail
        go_meet
        exact ⟨g7, g8, mt, mx, mp, mn, f1, f2, rfl, rfl, m, oc, O2, s2, HR.out, HS103.out.sub (by simp) (by have := HS103.out.nd; simp at this ⊢; omega)⟩
    · refine alloc32_step rfl rfl rfl ?_
      intro V105 g8 hV hG
      have HS106 : Hid (LS w O O1 b s s (some c) [(g8, flL (0, 0), 32), (w.heap.size + 1 + 1, flL (0, 0), 32), (w.heap.size + 1, exL h2 la ln lc, 102), (w.heap.size, exL h ka kn kc, 102)] V105) := HS0.out.allocE (flL (0, 0)) 32 hV hG
      refine hK.out _ _ (fun _ => HSS.out _ _ _ _ _ HS106.out (by simp)) ?_
      clear hK K HS0 hV hG
      simp only [Act.put, List.setIfInBounds_toArray, List.set_cons_succ, List.set_cons_zero]
      refine wpAnyY_two (i := 2) (j := 7) rfl rfl (by kernel_rfl) (fun K hK => ?_) (fun K hK => ?_)
      · refine call95c_step rfl rfl rfl ?_
        intro V107 gc hV hG
        have HS108 : Hid (LS w O O1 b s s (some c) [(gc, [.int .i64 0], 3), (g8, flL (0, 0), 32), (w.heap.size + 1 + 1, flL (0, 0), 32), (w.heap.size + 1, exL h2 la ln lc, 102), (w.heap.size, exL h ka kn kc, 102)] V107) := HS106.out.allocE _ 3 hV hG
        refine hK.out _ _ (fun _ => HSS.out _ _ _ _ _ HS108.out (by simp)) ?_
        clear hK K HS106 hV hG
        simp only [Act.put, List.setIfInBounds_toArray, List.set_cons_succ, List.set_cons_zero]
        refine wpAnyY_two (i := 3) (j := 7) rfl rfl (by kernel_rfl) (fun K hK => ?_) (fun K hK => ?_)
        · refine call89_step rfl rfl rfl rfl rfl rfl ?_
          refine (HA1.out _ _ _ _ gc HS108.out (by simp)).mono ?_
          rintro e V109 ⟨mt, mx, mp, mn, f1, f2, rfl, hV⟩
          refine ⟨_, rfl, ?_⟩
          obtain ⟨m, oc, O2, s2, hm, hRQ, hLS⟩ := hV.out
          have HS110 : Hid (LS w O O2 b s s2 oc [(gc, [.int .i64 0], 3), (g8, flL (0, 0), 32), (w.heap.size + 1 + 1, flL (0, 0), 32), (w.heap.size + 1, exL h2 la ln lc, 102), (w.heap.size, exL h ka kn kc, 102)] V109) := hLS
          have HR : Hid (RQ r1 m (f1, f2) oc ∧ m.isText = mt ∧ bs m.text = mx ∧ m.place = mp ∧ m.num = mn) := ⟨hRQ, hm⟩
          refine hK.out _ _ (fun _ => HSS.out _ _ _ _ _ HS110.out (by simp)) ?_
          clear hK K HS108 hV hm hRQ hLS
          simp only [Act.put, List.setIfInBounds_toArray, List.set_cons_succ, List.set_cons_zero]
          refine wpAnyY_takeD (i := 4) 12 (v := .tuple #[.agg #[.bool mt, .string mx, .int .i64 mp, .int .i64 mn], .agg #[.int .i64 f1, .int .i64 f2]]) rfl rfl (by kernel_rfl) (by kernel_rfl) (late_of (by kernel_rfl)) (by kernel_rfl) (by kernel_rfl) (fun _ _ _ h => h) (HSS.out _ _ _ _ _ HS110.out (by simp)) (Or.inl ⟨by rfl, by (intro W hW; obtain ⟨_, _, _, _, _⟩ := hW; go_simp)⟩) ?_
          simp only [Act.put, List.setIfInBounds_toArray, List.set_cons_succ, List.set_cons_zero]
          refine wpAnyY_takeD (i := 5) 17 (v := .agg #[.bool mt, .string mx, .int .i64 mp, .int .i64 mn]) rfl rfl (by kernel_rfl) (by kernel_rfl) (late_of (by kernel_rfl)) (by kernel_rfl) (by kernel_rfl) (fun _ _ _ h => h) (HSS.out _ _ _ _ _ HS110.out (by simp)) (Or.inl ⟨by rfl, by (intro W hW; obtain ⟨_, _, _, _, _⟩ := hW; go_simp)⟩) ?_
          simp only [Act.put, List.setIfInBounds_toArray, List.set_cons_succ, List.set_cons_zero]
          refine wpAnyY_takeD (i := 6) 18 (v := .agg #[.int .i64 f1, .int .i64 f2]) rfl rfl (by kernel_rfl) (by kernel_rfl) (late_of (by kernel_rfl)) (by kernel_rfl) (by kernel_rfl) (fun _ _ _ h => h) (HSS.out _ _ _ _ _ HS110.out (by simp)) (Or.inl ⟨by rfl, by (intro W hW; obtain ⟨_, _, _, _, _⟩ := hW; go_simp)⟩) ?_
          simp only [Act.put, List.setIfInBounds_toArray, List.set_cons_succ, List.set_cons_zero]
          refine wpAnyY_one (i := 7) rfl (by kernel_rfl) (fun K hK => ?_)
          refine alloc109_step rfl rfl rfl ?_
          intro V111 g7 hV hG
          have HS112 : Hid (LS w O O2 b s s2 oc [(g7, mnL mn0, 109), (gc, [.int .i64 0], 3), (g8, flL (0, 0), 32), (w.heap.size + 1 + 1, flL (0, 0), 32), (w.heap.size + 1, exL h2 la ln lc, 102), (w.heap.size, exL h ka kn kc, 102)] V111) := HS110.out.allocE (mnL mn0) 109 hV hG
          refine hK.out _ _ (fun _ => HSS.out _ _ _ _ _ HS112.out (by simp)) ?_
          clear hK K HS110 hV hG
          simp only [Act.put, List.setIfInBounds_toArray, List.set_cons_succ, List.set_cons_zero]
          refine wpAnyY_one (i := 9) rfl (by kernel_rfl) (fun K hK => ?_)
          have HF115 : Hid (LS w O O2 b s s2 oc [(g7, mnL mn0, 109), (gc, [.int .i64 0], 3), (g8, flL (0, 0), 32), (w.heap.size + 1 + 1, flL (0, 0), 32), (w.heap.size + 1, exL h2 la ln lc, 102), (w.heap.size, exL h ka kn kc, 102)] V111) := HS112.out.front (L1 := []) (L2 := [(gc, [.int .i64 0], 3), (g8, flL (0, 0), 32), (w.heap.size + 1 + 1, flL (0, 0), 32), (w.heap.size + 1, exL h2 la ln lc, 102), (w.heap.size, exL h ka kn kc, 102)]) rfl
          refine store109_step rfl rfl rfl rfl rfl (HF115.out.blk (List.mem_cons_self ..)) ?_
          intro V113 hV
          have HS114 : Hid (LS w O O2 b s s2 oc [(g7, mnL m, 109), (gc, [.int .i64 0], 3), (g8, flL (0, 0), 32), (w.heap.size + 1 + 1, flL (0, 0), 32), (w.heap.size + 1, exL h2 la ln lc, 102), (w.heap.size, exL h ka kn kc, 102)] V113) := HF115.out.store109 m HR.out.2.2.1.symm (by rw [hV, HR.out.2.1, HR.out.2.2.2.1, HR.out.2.2.2.2])
          refine hK.out _ _ (fun _ => HSS.out _ _ _ _ _ HS114.out (by simp)) ?_
          clear hK K HS112 hV HF115
          refine wpAnyY_one (i := 10) rfl (by kernel_rfl) (fun K hK => ?_)
          have HF118 : Hid (LS w O O2 b s s2 oc [(g8, flL (0, 0), 32), (g7, mnL m, 109), (gc, [.int .i64 0], 3), (w.heap.size + 1 + 1, flL (0, 0), 32), (w.heap.size + 1, exL h2 la ln lc, 102), (w.heap.size, exL h ka kn kc, 102)] V113) := HS114.out.front (L1 := [(g7, mnL m, 109), (gc, [.int .i64 0], 3)]) (L2 := [(w.heap.size + 1 + 1, flL (0, 0), 32), (w.heap.size + 1, exL h2 la ln lc, 102), (w.heap.size, exL h ka kn kc, 102)]) rfl
          refine store32_step rfl rfl rfl rfl rfl (HF118.out.blk (List.mem_cons_self ..)) ?_
          intro V116 hV
          have HS117 : Hid (LS w O O2 b s s2 oc [(g8, flL (f1, f2), 32), (g7, mnL m, 109), (gc, [.int .i64 0], 3), (w.heap.size + 1 + 1, flL (0, 0), 32), (w.heap.size + 1, exL h2 la ln lc, 102), (w.heap.size, exL h ka kn kc, 102)] V116) := HF118.out.store32 (f1, f2) hV
          refine hK.out _ _ (fun _ => HSS.out _ _ _ _ _ HS117.out (by simp)) ?_
          clear hK K HS114 hV HF118
          refine wpAnyY_done (by kernel_rfl) ?_ _
          go_wp2_with fail
          go_meet
          exact ⟨g7, g8, mt, mx, mp, mn, f1, f2, rfl, rfl, m, oc, O2, s2, HR.out, HS117.out.sub (by simp) (by have := HS117.out.nd; simp at this ⊢; omega)⟩
        · refine alloc109_step rfl rfl rfl ?_
          intro V119 g7 hV hG
          have HS120 : Hid (LS w O O1 b s s (some c) [(g7, mnL mn0, 109), (gc, [.int .i64 0], 3), (g8, flL (0, 0), 32), (w.heap.size + 1 + 1, flL (0, 0), 32), (w.heap.size + 1, exL h2 la ln lc, 102), (w.heap.size, exL h ka kn kc, 102)] V119) := HS108.out.allocE (mnL mn0) 109 hV hG
          refine hK.out _ _ (fun _ => HSS.out _ _ _ _ _ HS120.out (by simp)) ?_
          clear hK K HS108 hV hG
          simp only [Act.put, List.setIfInBounds_toArray, List.set_cons_succ, List.set_cons_zero]
          refine wpAnyY_one (i := 3) rfl (by kernel_rfl) (fun K hK => ?_)
          refine call89_step rfl rfl rfl rfl rfl rfl ?_
          refine (HA1.out _ _ _ _ gc HS120.out (by simp)).mono ?_
          rintro e V121 ⟨mt, mx, mp, mn, f1, f2, rfl, hV⟩
          refine ⟨_, rfl, ?_⟩
          obtain ⟨m, oc, O2, s2, hm, hRQ, hLS⟩ := hV.out
          have HS122 : Hid (LS w O O2 b s s2 oc [(g7, mnL mn0, 109), (gc, [.int .i64 0], 3), (g8, flL (0, 0), 32), (w.heap.size + 1 + 1, flL (0, 0), 32), (w.heap.size + 1, exL h2 la ln lc, 102), (w.heap.size, exL h ka kn kc, 102)] V121) := hLS
          have HR : Hid (RQ r1 m (f1, f2) oc ∧ m.isText = mt ∧ bs m.text = mx ∧ m.place = mp ∧ m.num = mn) := ⟨hRQ, hm⟩
          refine hK.out _ _ (fun _ => HSS.out _ _ _ _ _ HS122.out (by simp)) ?_
          clear hK K HS120 hV hm hRQ hLS
          simp only [Act.put, List.setIfInBounds_toArray, List.set_cons_succ, List.set_cons_zero]
          refine wpAnyY_takeD (i := 4) 12 (v := .tuple #[.agg #[.bool mt, .string mx, .int .i64 mp, .int .i64 mn], .agg #[.int .i64 f1, .int .i64 f2]]) rfl rfl (by kernel_rfl) (by kernel_rfl) (late_of (by kernel_rfl)) (by kernel_rfl) (by kernel_rfl) (fun _ _ _ h => h) (HSS.out _ _ _ _ _ HS122.out (by simp)) (Or.inl ⟨by rfl, by (intro W hW; obtain ⟨_, _, _, _, _⟩ := hW; go_simp)⟩) ?_
          simp only [Act.put, List.setIfInBounds_toArray, List.set_cons_succ, List.set_cons_zero]
          refine wpAnyY_takeD (i := 5) 17 (v := .agg #[.bool mt, .string mx, .int .i64 mp, .int .i64 mn]) rfl rfl (by kernel_rfl) (by kernel_rfl) (late_of (by kernel_rfl)) (by kernel_rfl) (by kernel_rfl) (fun _ _ _ h => h) (HSS.out _ _ _ _ _ HS122.out (by simp)) (Or.inl ⟨by rfl, by (intro W hW; obtain ⟨_, _, _, _, _⟩ := hW; go_simp)⟩) ?_
          simp only [Act.put, List.setIfInBounds_toArray, List.set_cons_succ, List.set_cons_zero]
          refine wpAnyY_takeD (i := 6) 18 (v := .agg #[.int .i64 f1, .int .i64 f2]) rfl rfl (by kernel_rfl) (by kernel_rfl) (late_of (by kernel_rfl)) (by kernel_rfl) (by kernel_rfl) (fun _ _ _ h => h) (HSS.out _ _ _ _ _ HS122.out (by simp)) (Or.inl ⟨by rfl, by (intro W hW; obtain ⟨_, _, _, _, _⟩ := hW; go_simp)⟩) ?_
          simp only [Act.put, List.setIfInBounds_toArray, List.set_cons_succ, List.set_cons_zero]
          refine wpAnyY_one (i := 9) rfl (by kernel_rfl) (fun K hK => ?_)
          have HF125 : Hid (LS w O O2 b s s2 oc [(g7, mnL mn0, 109), (gc, [.int .i64 0], 3), (g8, flL (0, 0), 32), (w.heap.size + 1 + 1, flL (0, 0), 32), (w.heap.size + 1, exL h2 la ln lc, 102), (w.heap.size, exL h ka kn kc, 102)] V121) := HS122.out.front (L1 := []) (L2 := [(gc, [.int .i64 0], 3), (g8, flL (0, 0), 32), (w.heap.size + 1 + 1, flL (0, 0), 32), (w.heap.size + 1, exL h2 la ln lc, 102), (w.heap.size, exL h ka kn kc, 102)]) rfl
          refine store109_step rfl rfl rfl rfl rfl (HF125.out.blk (List.mem_cons_self ..)) ?_
          intro V123 hV
          have HS124 : Hid (LS w O O2 b s s2 oc [(g7, mnL m, 109), (gc, [.int .i64 0], 3), (g8, flL (0, 0), 32), (w.heap.size + 1 + 1, flL (0, 0), 32), (w.heap.size + 1, exL h2 la ln lc, 102), (w.heap.size, exL h ka kn kc, 102)] V123) := HF125.out.store109 m HR.out.2.2.1.symm (by rw [hV, HR.out.2.1, HR.out.2.2.2.1, HR.out.2.2.2.2])
          refine hK.out _ _ (fun _ => HSS.out _ _ _ _ _ HS124.out (by simp)) ?_
          clear hK K HS122 hV HF125
          refine wpAnyY_one (i := 10) rfl (by kernel_rfl) (fun K hK => ?_)
          have HF128 : Hid (LS w O O2 b s s2 oc [(g8, flL (0, 0), 32), (g7, mnL m, 109), (gc, [.int .i64 0], 3), (w.heap.size + 1 + 1, flL (0, 0), 32), (w.heap.size + 1, exL h2 la ln lc, 102), (w.heap.size, exL h ka kn kc, 102)] V123) := HS124.out.front (L1 := [(g7, mnL m, 109), (gc, [.int .i64 0], 3)]) (L2 := [(w.heap.size + 1 + 1, flL (0, 0), 32), (w.heap.size + 1, exL h2 la ln lc, 102), (w.heap.size, exL h ka kn kc, 102)]) rfl
          refine store32_step rfl rfl rfl rfl rfl (HF128.out.blk (List.mem_cons_self ..)) ?_
          intro V126 hV
          have HS127 : Hid (LS w O O2 b s s2 oc [(g8, flL (f1, f2), 32), (g7, mnL m, 109), (gc, [.int .i64 0], 3), (w.heap.size + 1 + 1, flL (0, 0), 32), (w.heap.size + 1, exL h2 la ln lc, 102), (w.heap.size, exL h ka kn kc, 102)] V126) := HF128.out.store32 (f1, f2) hV
          refine hK.out _ _ (fun _ => HSS.out _ _ _ _ _ HS127.out (by simp)) ?_
          clear hK K HS124 hV HF128
          refine wpAnyY_done (by kernel_rfl) ?_ _
          go_wp2_with fail
          go_meet
          exact ⟨g7, g8, mt, mx, mp, mn, f1, f2, rfl, rfl, m, oc, O2, s2, HR.out, HS127.out.sub (by simp) (by have := HS127.out.nd; simp at this ⊢; omega)⟩
      · refine alloc109_step rfl rfl rfl ?_
        intro V129 g7 hV hG
        have HS130 : Hid (LS w O O1 b s s (some c) [(g7, mnL mn0, 109), (g8, flL (0, 0), 32), (w.heap.size + 1 + 1, flL (0, 0), 32), (w.heap.size + 1, exL h2 la ln lc, 102), (w.heap.size, exL h ka kn kc, 102)] V129) := HS106.out.allocE (mnL mn0) 109 hV hG
        refine hK.out _ _ (fun _ => HSS.out _ _ _ _ _ HS130.out (by simp)) ?_
        clear hK K HS106 hV hG
        simp only [Act.put, List.setIfInBounds_toArray, List.set_cons_succ, List.set_cons_zero]
        refine wpAnyY_one (i := 2) rfl (by kernel_rfl) (fun K hK => ?_)
        refine call95c_step rfl rfl rfl ?_
        intro V131 gc hV hG
        have HS132 : Hid (LS w O O1 b s s (some c) [(gc, [.int .i64 0], 3), (g7, mnL mn0, 109), (g8, flL (0, 0), 32), (w.heap.size + 1 + 1, flL (0, 0), 32), (w.heap.size + 1, exL h2 la ln lc, 102), (w.heap.size, exL h ka kn kc, 102)] V131) := HS130.out.allocE _ 3 hV hG
        refine hK.out _ _ (fun _ => HSS.out _ _ _ _ _ HS132.out (by simp)) ?_
        clear hK K HS130 hV hG
        simp only [Act.put, List.setIfInBounds_toArray, List.set_cons_succ, List.set_cons_zero]
        refine wpAnyY_one (i := 3) rfl (by kernel_rfl) (fun K hK => ?_)
        refine call89_step rfl rfl rfl rfl rfl rfl ?_
        refine (HA1.out _ _ _ _ gc HS132.out (by simp)).mono ?_
        rintro e V133 ⟨mt, mx, mp, mn, f1, f2, rfl, hV⟩
        refine ⟨_, rfl, ?_⟩
        obtain ⟨m, oc, O2, s2, hm, hRQ, hLS⟩ := hV.out
        have HS134 : Hid (LS w O O2 b s s2 oc [(gc, [.int .i64 0], 3), (g7, mnL mn0, 109), (g8, flL (0, 0), 32), (w.heap.size + 1 + 1, flL (0, 0), 32), (w.heap.size + 1, exL h2 la ln lc, 102), (w.heap.size, exL h ka kn kc, 102)] V133) := hLS
        have HR : Hid (RQ r1 m (f1, f2) oc ∧ m.isText = mt ∧ bs m.text = mx ∧ m.place = mp ∧ m.num = mn) := ⟨hRQ, hm⟩
        refine hK.out _ _ (fun _ => HSS.out _ _ _ _ _ HS134.out (by simp)) ?_
        clear hK K HS132 hV hm hRQ hLS
        simp only [Act.put, List.setIfInBounds_toArray, List.set_cons_succ, List.set_cons_zero]
        refine wpAnyY_takeD (i := 4) 12 (v := .tuple #[.agg #[.bool mt, .string mx, .int .i64 mp, .int .i64 mn], .agg #[.int .i64 f1, .int .i64 f2]]) rfl rfl (by kernel_rfl) (by kernel_rfl) (late_of (by kernel_rfl)) (by kernel_rfl) (by kernel_rfl) (fun _ _ _ h => h) (HSS.out _ _ _ _ _ HS134.out (by simp)) (Or.inl ⟨by rfl, by (intro W hW; obtain ⟨_, _, _, _, _⟩ := hW; go_simp)⟩) ?_
        simp only [Act.put, List.setIfInBounds_toArray, List.set_cons_succ, List.set_cons_zero]
        refine wpAnyY_takeD (i := 5) 17 (v := .agg #[.bool mt, .string mx, .int .i64 mp, .int .i64 mn]) rfl rfl (by kernel_rfl) (by kernel_rfl) (late_of (by kernel_rfl)) (by kernel_rfl) (by kernel_rfl) (fun _ _ _ h => h) (HSS.out _ _ _ _ _ HS134.out (by simp)) (Or.inl ⟨by rfl, by (intro W hW; obtain ⟨_, _, _, _, _⟩ := hW; go_simp)⟩) ?_
        simp only [Act.put, List.setIfInBounds_toArray, List.set_cons_succ, List.set_cons_zero]
        refine wpAnyY_takeD (i := 6) 18 (v := .agg #[.int .i64 f1, .int .i64 f2]) rfl rfl (by kernel_rfl) (by kernel_rfl) (late_of (by kernel_rfl)) (by kernel_rfl) (by kernel_rfl) (fun _ _ _ h => h) (HSS.out _ _ _ _ _ HS134.out (by simp)) (Or.inl ⟨by rfl, by (intro W hW; obtain ⟨_, _, _, _, _⟩ := hW; go_simp)⟩) ?_
        simp only [Act.put, List.setIfInBounds_toArray, List.set_cons_succ, List.set_cons_zero]
        refine wpAnyY_one (i := 9) rfl (by kernel_rfl) (fun K hK => ?_)
        have HF137 : Hid (LS w O O2 b s s2 oc [(g7, mnL mn0, 109), (gc, [.int .i64 0], 3), (g8, flL (0, 0), 32), (w.heap.size + 1 + 1, flL (0, 0), 32), (w.heap.size + 1, exL h2 la ln lc, 102), (w.heap.size, exL h ka kn kc, 102)] V133) := HS134.out.front (L1 := [(gc, [.int .i64 0], 3)]) (L2 := [(g8, flL (0, 0), 32), (w.heap.size + 1 + 1, flL (0, 0), 32), (w.heap.size + 1, exL h2 la ln lc, 102), (w.heap.size, exL h ka kn kc, 102)]) rfl
        refine store109_step rfl rfl rfl rfl rfl (HF137.out.blk (List.mem_cons_self ..)) ?_
        intro V135 hV
        have HS136 : Hid (LS w O O2 b s s2 oc [(g7, mnL m, 109), (gc, [.int .i64 0], 3), (g8, flL (0, 0), 32), (w.heap.size + 1 + 1, flL (0, 0), 32), (w.heap.size + 1, exL h2 la ln lc, 102), (w.heap.size, exL h ka kn kc, 102)] V135) := HF137.out.store109 m HR.out.2.2.1.symm (by rw [hV, HR.out.2.1, HR.out.2.2.2.1, HR.out.2.2.2.2])
        refine hK.out _ _ (fun _ => HSS.out _ _ _ _ _ HS136.out (by simp)) ?_
        clear hK K HS134 hV HF137
        refine wpAnyY_one (i := 10) rfl (by kernel_rfl) (fun K hK => ?_)
        have HF140 : Hid (LS w O O2 b s s2 oc [(g8, flL (0, 0), 32), (g7, mnL m, 109), (gc, [.int .i64 0], 3), (w.heap.size + 1 + 1, flL (0, 0), 32), (w.heap.size + 1, exL h2 la ln lc, 102), (w.heap.size, exL h ka kn kc, 102)] V135) := HS136.out.front (L1 := [(g7, mnL m, 109), (gc, [.int .i64 0], 3)]) (L2 := [(w.heap.size + 1 + 1, flL (0, 0), 32), (w.heap.size + 1, exL h2 la ln lc, 102), (w.heap.size, exL h ka kn kc, 102)]) rfl
        refine store32_step rfl rfl rfl rfl rfl (HF140.out.blk (List.mem_cons_self ..)) ?_
        intro V138 hV
        have HS139 : Hid (LS w O O2 b s s2 oc [(g8, flL (f1, f2), 32), (g7, mnL m, 109), (gc, [.int .i64 0], 3), (w.heap.size + 1 + 1, flL (0, 0), 32), (w.heap.size + 1, exL h2 la ln lc, 102), (w.heap.size, exL h ka kn kc, 102)] V138) := HF140.out.store32 (f1, f2) hV
        refine hK.out _ _ (fun _ => HSS.out _ _ _ _ _ HS139.out (by simp)) ?_
        clear hK K HS136 hV HF140
        refine wpAnyY_done (by kernel_rfl) ?_ _
        go_wp2_with fail
        go_meet
        exact ⟨g7, g8, mt, mx, mp, mn, f1, f2, rfl, rfl, m, oc, O2, s2, HR.out, HS139.out.sub (by simp) (by have := HS139.out.nd; simp at this ⊢; omega)⟩
  case rest =>
    obtain ⟨g7, g8, mt, mx, mp, mn, f1, f2, rfl, rfl, m, oc, O2, s2, ⟨hRQ, e1, e2, e3, e4⟩, hL⟩ := hcut
    clear HA1 HSS HS0
    cases r1 with
    | error f' =>
      obtain ⟨rfl, hf, -, rfl⟩ := hRQ
      have HX2 : Hid (costsB c (h, k) (h2, k2) = .error (f1, f2)) := HX.out
      have HF : Hid (f1 ≠ 0) := hf
      have hq : (f1 == 0) = false := by rw [beq_eq_false_iff_ne]; exact hf
      have HL : Hid (LS w O O2 b s s2 none [(g7, mnL m, 109), (g8, flL (f1, f2), 32), (w.heap.size + 1 + 1, flL (0, 0), 32), (w.heap.size + 1, exL h2 la ln lc, 102), (w.heap.size, exL h ka kn kc, 102)] wc) := hL
      have y0 : wc.cell? ⟨g8, 0, none⟩ = some (.int .i64 f1) := HL.out.at (g := g8) (cs := flL (f1, f2)) (ty := 32) (by simp) rfl
      have y1 : wc.cell? ⟨g8, 1, none⟩ = some (.int .i64 f2) := HL.out.at (g := g8) (cs := flL (f1, f2)) (ty := 32) (by simp) rfl
      have z0 : wc.cell? ⟨w.heap.size + 1 + 1, 0, none⟩ = some (.int .i64 0) := HL.out.at (g := w.heap.size + 1 + 1) (cs := flL (0, 0)) (ty := 32) (by simp) rfl
      have z1 : wc.cell? ⟨w.heap.size + 1 + 1, 1, none⟩ = some (.int .i64 0) := HL.out.at (g := w.heap.size + 1 + 1) (cs := flL (0, 0)) (ty := 32) (by simp) rfl
      have zf : ∀ i, wc.frozen? ⟨w.heap.size + 1 + 1, i, none⟩ = false := fun i => HL.out.fz (g := w.heap.size + 1 + 1) (cs := flL (0, 0)) (ty := 32) (by simp) i
      clear HX HA2 HSS2 hf hL e1 e2 e3 e4
      go_wp2_with fail
      go_region
      go_wp2
      refine bodyPost_ret (v := .tuple #[.int .i64 0, .int .i64 0, .agg #[.int .i64 f1, .int .i64 f2]]) ?_ rfl ?_
      · simp only [results, hres]
        go_simp
      · show CPost _ _ _ _ _ _
        rw [HX2.out]
        exact ⟨HF.out, ⟨0, 0, rfl⟩, ((HL.out.fr.setCell (.inr (by omega)) _ _).setCell (.inr (by omega)) _ _).drew⟩
    | ok x =>
      obtain ⟨c1, m'⟩ := x
      obtain ⟨hf, rfl, rfl⟩ := hRQ
      cases hf
      obtain ⟨r2, hr2⟩ : ∃ r, r = askQ (numFrom 0) c1 (h2, k2) := ⟨_, rfl⟩
      have HX2 : Hid (costsB c (h, k) (h2, k2) = costs2 m.place r2) := by show _ = _; rw [hr2]; exact HX.out
      have HL : Hid (LS w O O2 b s s2 (some c1) [(g7, mnL m, 109), (g8, flL (0, 0), 32), (w.heap.size + 1 + 1, flL (0, 0), 32), (w.heap.size + 1, exL h2 la ln lc, 102), (w.heap.size, exL h ka kn kc, 102)] wc) := hL
      have HA3 := HA2.out c1
      rw [← hr2] at HA3
      have HA3' : Hid _ := HA3
      have y0 : wc.cell? ⟨g8, 0, none⟩ = some (.int .i64 0) := HL.out.at (g := g8) (cs := flL (0, 0)) (ty := 32) (by simp) rfl
      clear HA2 HX hL e1 e2 e3 e4 hr2
      go_upto_region 4 with (fail)
      clear y0
      have HS0 : Hid (LS w O O2 b s s2 (some c1) [(g7, mnL m, 109), (g8, flL (0, 0), 32), (w.heap.size + 1 + 1, flL (0, 0), 32), (w.heap.size + 1, exL h2 la ln lc, 102), (w.heap.size, exL h ka kn kc, 102)] wc.drew) := HL.out.drew
      clear HL
      obtain ⟨wd, hwd⟩ : ∃ wd, wd = wc := ⟨_, rfl⟩
      subst hwd
      go_cut [11] (fun mv wc => ∃ g9 mt mx mp mn f1 f2, mv = .pointer (some ⟨g9, 0, none⟩) ∧ AR r2 w O b s mt mx mp mn f1 f2 (fun m_x => [(g9, mnL m_x, 109), (g7, mnL m, 109), (g8, flL (f1, f2), 32), (w.heap.size + 1 + 1, flL (0, 0), 32)]) wc)
      case first =>
        refine wp_region_Y (fun j => [].contains j) (fun W => W.cell? ⟨w.heap.size + 1, 0, none⟩ = some (.int .i64 h2.kind) ∧ W.cell? ⟨w.heap.size + 1, 1, none⟩ = some (.int .i64 h2.num) ∧ W.cell? ⟨w.heap.size + 1, 2, none⟩ = some (.string (bs h2.text)) ∧ W.cell? ⟨w.heap.size + 1, 3, none⟩ = some (.slice la ln lc) ∧ W.cell? ⟨w.heap.size + 1, 4, none⟩ = some (.int .i64 h2.pl)) (by kernel_rfl) ?_
        refine wpAnyY_takeD (i := 0) 24 (v := .pointer (some ⟨b, 0, none⟩)) rfl rfl (by kernel_rfl) (by kernel_rfl) (late_of (by kernel_rfl)) (by kernel_rfl) (by kernel_rfl) (fun _ _ _ h => h) (HSS2.out _ _ _ _ _ HS0.out (by simp)) (Or.inl ⟨by rfl, by (intro W hW; obtain ⟨_, _, _, _, _⟩ := hW; go_simp)⟩) ?_
        simp only [Act.put, List.setIfInBounds_toArray, List.set_cons_succ, List.set_cons_zero]
        refine wpAnyY_takeD (i := 1) 25 (v := .agg #[.int .i64 h2.kind, .int .i64 h2.num, .string (bs h2.text), .slice la ln lc, .int .i64 h2.pl]) rfl rfl (by kernel_rfl) (by kernel_rfl) (late_of (by kernel_rfl)) (by kernel_rfl) (by kernel_rfl) (fun _ _ _ h => h) (HSS2.out _ _ _ _ _ HS0.out (by simp)) (Or.inl ⟨by rfl, by (intro W hW; obtain ⟨_, _, _, _, _⟩ := hW; go_simp)⟩) ?_
        simp only [Act.put, List.setIfInBounds_toArray, List.set_cons_succ, List.set_cons_zero]
        refine wpAnyY_two (i := 2) (j := 7) rfl rfl (by kernel_rfl) (fun K hK => ?_) (fun K hK => ?_)
        · refine call95c_step rfl rfl rfl ?_
          intro V1 gd hV hG
          have HS2 : Hid (LS w O O2 b s s2 (some c1) [(gd, [.int .i64 0], 3), (g7, mnL m, 109), (g8, flL (0, 0), 32), (w.heap.size + 1 + 1, flL (0, 0), 32), (w.heap.size + 1, exL h2 la ln lc, 102), (w.heap.size, exL h ka kn kc, 102)] V1) := HS0.out.allocE _ 3 hV hG
          refine hK.out _ _ (fun _ => HSS2.out _ _ _ _ _ HS2.out (by simp)) ?_
          clear hK K HS0 hV hG
          simp only [Act.put, List.setIfInBounds_toArray, List.set_cons_succ, List.set_cons_zero]
          refine wpAnyY_two (i := 3) (j := 7) rfl rfl (by kernel_rfl) (fun K hK => ?_) (fun K hK => ?_)
          · refine call89_step rfl rfl rfl rfl rfl rfl ?_
            refine (HA3'.out _ _ _ _ gd HS2.out (by simp)).mono ?_
            rintro e V3 ⟨mt_x, mx_x, mp_x, mn_x, f1_x, f2_x, rfl, hV⟩
            refine ⟨_, rfl, ?_⟩
            obtain ⟨m_x, oc_x, O2_x, s2_x, hm, hRQ, hLS⟩ := hV.out
            have HS4 : Hid (LS w O O2_x b s s2_x oc_x [(gd, [.int .i64 0], 3), (g7, mnL m, 109), (g8, flL (0, 0), 32), (w.heap.size + 1 + 1, flL (0, 0), 32), (w.heap.size + 1, exL h2 la ln lc, 102), (w.heap.size, exL h ka kn kc, 102)] V3) := hLS
            have HR : Hid (RQ r2 m_x (f1_x, f2_x) oc_x ∧ m_x.isText = mt_x ∧ bs m_x.text = mx_x ∧ m_x.place = mp_x ∧ m_x.num = mn_x) := ⟨hRQ, hm⟩
            refine hK.out _ _ (fun _ => HSS2.out _ _ _ _ _ HS4.out (by simp)) ?_
            clear hK K HS2 hV hm hRQ hLS
            simp only [Act.put, List.setIfInBounds_toArray, List.set_cons_succ, List.set_cons_zero]
            refine wpAnyY_takeD (i := 4) 23 (v := .tuple #[.agg #[.bool mt_x, .string mx_x, .int .i64 mp_x, .int .i64 mn_x], .agg #[.int .i64 f1_x, .int .i64 f2_x]]) rfl rfl (by kernel_rfl) (by kernel_rfl) (late_of (by kernel_rfl)) (by kernel_rfl) (by kernel_rfl) (fun _ _ _ h => h) (HSS2.out _ _ _ _ _ HS4.out (by simp)) (Or.inl ⟨by rfl, by (intro W hW; obtain ⟨_, _, _, _, _⟩ := hW; go_simp)⟩) ?_
            simp only [Act.put, List.setIfInBounds_toArray, List.set_cons_succ, List.set_cons_zero]
            refine wpAnyY_takeD (i := 5) 28 (v := .agg #[.bool mt_x, .string mx_x, .int .i64 mp_x, .int .i64 mn_x]) rfl rfl (by kernel_rfl) (by kernel_rfl) (late_of (by kernel_rfl)) (by kernel_rfl) (by kernel_rfl) (fun _ _ _ h => h) (HSS2.out _ _ _ _ _ HS4.out (by simp)) (Or.inl ⟨by rfl, by (intro W hW; obtain ⟨_, _, _, _, _⟩ := hW; go_simp)⟩) ?_
            simp only [Act.put, List.setIfInBounds_toArray, List.set_cons_succ, List.set_cons_zero]
            refine wpAnyY_takeD (i := 6) 29 (v := .agg #[.int .i64 f1_x, .int .i64 f2_x]) rfl rfl (by kernel_rfl) (by kernel_rfl) (late_of (by kernel_rfl)) (by kernel_rfl) (by kernel_rfl) (fun _ _ _ h => h) (HSS2.out _ _ _ _ _ HS4.out (by simp)) (Or.inl ⟨by rfl, by (intro W hW; obtain ⟨_, _, _, _, _⟩ := hW; go_simp)⟩) ?_
            simp only [Act.put, List.setIfInBounds_toArray, List.set_cons_succ, List.set_cons_zero]
            refine wpAnyY_one (i := 7) rfl (by kernel_rfl) (fun K hK => ?_)
            refine alloc109_step rfl rfl rfl ?_
            intro V5 g9 hV hG
            have HS6 : Hid (LS w O O2_x b s s2_x oc_x [(g9, mnL mn0, 109), (gd, [.int .i64 0], 3), (g7, mnL m, 109), (g8, flL (0, 0), 32), (w.heap.size + 1 + 1, flL (0, 0), 32), (w.heap.size + 1, exL h2 la ln lc, 102), (w.heap.size, exL h ka kn kc, 102)] V5) := HS4.out.allocE (mnL mn0) 109 hV hG
            refine hK.out _ _ (fun _ => HSS2.out _ _ _ _ _ HS6.out (by simp)) ?_
            clear hK K HS4 hV hG
            simp only [Act.put, List.setIfInBounds_toArray, List.set_cons_succ, List.set_cons_zero]
            refine wpAnyY_one (i := 8) rfl (by kernel_rfl) (fun K hK => ?_)
            have HF9 : Hid (LS w O O2_x b s s2_x oc_x [(g9, mnL mn0, 109), (gd, [.int .i64 0], 3), (g7, mnL m, 109), (g8, flL (0, 0), 32), (w.heap.size + 1 + 1, flL (0, 0), 32), (w.heap.size + 1, exL h2 la ln lc, 102), (w.heap.size, exL h ka kn kc, 102)] V5) := HS6.out.front (L1 := []) (L2 := [(gd, [.int .i64 0], 3), (g7, mnL m, 109), (g8, flL (0, 0), 32), (w.heap.size + 1 + 1, flL (0, 0), 32), (w.heap.size + 1, exL h2 la ln lc, 102), (w.heap.size, exL h ka kn kc, 102)]) rfl
            refine store109_step rfl rfl rfl rfl rfl (HF9.out.blk (List.mem_cons_self ..)) ?_
            intro V7 hV
            have HS8 : Hid (LS w O O2_x b s s2_x oc_x [(g9, mnL m_x, 109), (gd, [.int .i64 0], 3), (g7, mnL m, 109), (g8, flL (0, 0), 32), (w.heap.size + 1 + 1, flL (0, 0), 32), (w.heap.size + 1, exL h2 la ln lc, 102), (w.heap.size, exL h ka kn kc, 102)] V7) := HF9.out.store109 m_x HR.out.2.2.1.symm (by rw [hV, HR.out.2.1, HR.out.2.2.2.1, HR.out.2.2.2.2])
            refine hK.out _ _ (fun _ => HSS2.out _ _ _ _ _ HS8.out (by simp)) ?_
            clear hK K HS6 hV HF9
            refine wpAnyY_one (i := 9) rfl (by kernel_rfl) (fun K hK => ?_)
            have HF12 : Hid (LS w O O2_x b s s2_x oc_x [(g8, flL (0, 0), 32), (g9, mnL m_x, 109), (gd, [.int .i64 0], 3), (g7, mnL m, 109), (w.heap.size + 1 + 1, flL (0, 0), 32), (w.heap.size + 1, exL h2 la ln lc, 102), (w.heap.size, exL h ka kn kc, 102)] V7) := HS8.out.front (L1 := [(g9, mnL m_x, 109), (gd, [.int .i64 0], 3), (g7, mnL m, 109)]) (L2 := [(w.heap.size + 1 + 1, flL (0, 0), 32), (w.heap.size + 1, exL h2 la ln lc, 102), (w.heap.size, exL h ka kn kc, 102)]) rfl
            refine store32_step rfl rfl rfl rfl rfl (HF12.out.blk (List.mem_cons_self ..)) ?_
            intro V10 hV
            have HS11 : Hid (LS w O O2_x b s s2_x oc_x [(g8, flL (f1_x, f2_x), 32), (g9, mnL m_x, 109), (gd, [.int .i64 0], 3), (g7, mnL m, 109), (w.heap.size + 1 + 1, flL (0, 0), 32), (w.heap.size + 1, exL h2 la ln lc, 102), (w.heap.size, exL h ka kn kc, 102)] V10) := HF12.out.store32 (f1_x, f2_x) hV
            refine hK.out _ _ (fun _ => HSS2.out _ _ _ _ _ HS11.out (by simp)) ?_
            clear hK K HS8 hV HF12
            refine wpAnyY_done (by kernel_rfl) ?_ _
            go_wp2_with fail
            go_meet
            exact ⟨g9, mt_x, mx_x, mp_x, mn_x, f1_x, f2_x, rfl, m_x, oc_x, O2_x, s2_x, HR.out, HS11.out.sub (by simp) (by have := HS11.out.nd; simp at this ⊢; omega)⟩
          · refine alloc109_step rfl rfl rfl ?_
            intro V13 g9 hV hG
            have HS14 : Hid (LS w O O2 b s s2 (some c1) [(g9, mnL mn0, 109), (gd, [.int .i64 0], 3), (g7, mnL m, 109), (g8, flL (0, 0), 32), (w.heap.size + 1 + 1, flL (0, 0), 32), (w.heap.size + 1, exL h2 la ln lc, 102), (w.heap.size, exL h ka kn kc, 102)] V13) := HS2.out.allocE (mnL mn0) 109 hV hG
            refine hK.out _ _ (fun _ => HSS2.out _ _ _ _ _ HS14.out (by simp)) ?_
            clear hK K HS2 hV hG
            simp only [Act.put, List.setIfInBounds_toArray, List.set_cons_succ, List.set_cons_zero]
            refine wpAnyY_one (i := 3) rfl (by kernel_rfl) (fun K hK => ?_)
            refine call89_step rfl rfl rfl rfl rfl rfl ?_
            refine (HA3'.out _ _ _ _ gd HS14.out (by simp)).mono ?_
            rintro e V15 ⟨mt_x, mx_x, mp_x, mn_x, f1_x, f2_x, rfl, hV⟩
            refine ⟨_, rfl, ?_⟩
            obtain ⟨m_x, oc_x, O2_x, s2_x, hm, hRQ, hLS⟩ := hV.out
            have HS16 : Hid (LS w O O2_x b s s2_x oc_x [(g9, mnL mn0, 109), (gd, [.int .i64 0], 3), (g7, mnL m, 109), (g8, flL (0, 0), 32), (w.heap.size + 1 + 1, flL (0, 0), 32), (w.heap.size + 1, exL h2 la ln lc, 102), (w.heap.size, exL h ka kn kc, 102)] V15) := hLS
            have HR : Hid (RQ r2 m_x (f1_x, f2_x) oc_x ∧ m_x.isText = mt_x ∧ bs m_x.text = mx_x ∧ m_x.place = mp_x ∧ m_x.num = mn_x) := ⟨hRQ, hm⟩
            refine hK.out _ _ (fun _ => HSS2.out _ _ _ _ _ HS16.out (by simp)) ?_
            clear hK K HS14 hV hm hRQ hLS
            simp only [Act.put, List.setIfInBounds_toArray, List.set_cons_succ, List.set_cons_zero]
            refine wpAnyY_takeD (i := 4) 23 (v := .tuple #[.agg #[.bool mt_x, .string mx_x, .int .i64 mp_x, .int .i64 mn_x], .agg #[.int .i64 f1_x, .int .i64 f2_x]]) rfl rfl (by kernel_rfl) (by kernel_rfl) (late_of (by kernel_rfl)) (by kernel_rfl) (by kernel_rfl) (fun _ _ _ h => h) (HSS2.out _ _ _ _ _ HS16.out (by simp)) (Or.inl ⟨by rfl, by (intro W hW; obtain ⟨_, _, _, _, _⟩ := hW; go_simp)⟩) ?_
            simp only [Act.put, List.setIfInBounds_toArray, List.set_cons_succ, List.set_cons_zero]
            refine wpAnyY_takeD (i := 5) 28 (v := .agg #[.bool mt_x, .string mx_x, .int .i64 mp_x, .int .i64 mn_x]) rfl rfl (by kernel_rfl) (by kernel_rfl) (late_of (by kernel_rfl)) (by kernel_rfl) (by kernel_rfl) (fun _ _ _ h => h) (HSS2.out _ _ _ _ _ HS16.out (by simp)) (Or.inl ⟨by rfl, by (intro W hW; obtain ⟨_, _, _, _, _⟩ := hW; go_simp)⟩) ?_
            simp only [Act.put, List.setIfInBounds_toArray, List.set_cons_succ, List.set_cons_zero]
            refine wpAnyY_takeD (i := 6) 29 (v := .agg #[.int .i64 f1_x, .int .i64 f2_x]) rfl rfl (by kernel_rfl) (by kernel_rfl) (late_of (by kernel_rfl)) (by kernel_rfl) (by kernel_rfl) (fun _ _ _ h => h) (HSS2.out _ _ _ _ _ HS16.out (by simp)) (Or.inl ⟨by rfl, by (intro W hW; obtain ⟨_, _, _, _, _⟩ := hW; go_simp)⟩) ?_
            simp only [Act.put, List.setIfInBounds_toArray, List.set_cons_succ, List.set_cons_zero]
            refine wpAnyY_one (i := 8) rfl (by kernel_rfl) (fun K hK => ?_)
            have HF19 : Hid (LS w O O2_x b s s2_x oc_x [(g9, mnL mn0, 109), (gd, [.int .i64 0], 3), (g7, mnL m, 109), (g8, flL (0, 0), 32), (w.heap.size + 1 + 1, flL (0, 0), 32), (w.heap.size + 1, exL h2 la ln lc, 102), (w.heap.size, exL h ka kn kc, 102)] V15) := HS16.out.front (L1 := []) (L2 := [(gd, [.int .i64 0], 3), (g7, mnL m, 109), (g8, flL (0, 0), 32), (w.heap.size + 1 + 1, flL (0, 0), 32), (w.heap.size + 1, exL h2 la ln lc, 102), (w.heap.size, exL h ka kn kc, 102)]) rfl
            refine store109_step rfl rfl rfl rfl rfl (HF19.out.blk (List.mem_cons_self ..)) ?_
            intro V17 hV
            have HS18 : Hid (LS w O O2_x b s s2_x oc_x [(g9, mnL m_x, 109), (gd, [.int .i64 0], 3), (g7, mnL m, 109), (g8, flL (0, 0), 32), (w.heap.size + 1 + 1, flL (0, 0), 32), (w.heap.size + 1, exL h2 la ln lc, 102), (w.heap.size, exL h ka kn kc, 102)] V17) := HF19.out.store109 m_x HR.out.2.2.1.symm (by rw [hV, HR.out.2.1, HR.out.2.2.2.1, HR.out.2.2.2.2])
            refine hK.out _ _ (fun _ => HSS2.out _ _ _ _ _ HS18.out (by simp)) ?_
            clear hK K HS16 hV HF19
            refine wpAnyY_one (i := 9) rfl (by kernel_rfl) (fun K hK => ?_)
            have HF22 : Hid (LS w O O2_x b s s2_x oc_x [(g8, flL (0, 0), 32), (g9, mnL m_x, 109), (gd, [.int .i64 0], 3), (g7, mnL m, 109), (w.heap.size + 1 + 1, flL (0, 0), 32), (w.heap.size + 1, exL h2 la ln lc, 102), (w.heap.size, exL h ka kn kc, 102)] V17) := HS18.out.front (L1 := [(g9, mnL m_x, 109), (gd, [.int .i64 0], 3), (g7, mnL m, 109)]) (L2 := [(w.heap.size + 1 + 1, flL (0, 0), 32), (w.heap.size + 1, exL h2 la ln lc, 102), (w.heap.size, exL h ka kn kc, 102)]) rfl
            refine store32_step rfl rfl rfl rfl rfl (HF22.out.blk (List.mem_cons_self ..)) ?_
            intro V20 hV
            have HS21 : Hid (LS w O O2_x b s s2_x oc_x [(g8, flL (f1_x, f2_x), 32), (g9, mnL m_x, 109), (gd, [.int .i64 0], 3), (g7, mnL m, 109), (w.heap.size + 1 + 1, flL (0, 0), 32), (w.heap.size + 1, exL h2 la ln lc, 102), (w.heap.size, exL h ka kn kc, 102)] V20) := HF22.out.store32 (f1_x, f2_x) hV
            refine hK.out _ _ (fun _ => HSS2.out _ _ _ _ _ HS21.out (by simp)) ?_
            clear hK K HS18 hV HF22
            refine wpAnyY_done (by kernel_rfl) ?_ _
            go_wp2_with fail
            go_meet
            exact ⟨g9, mt_x, mx_x, mp_x, mn_x, f1_x, f2_x, rfl, m_x, oc_x, O2_x, s2_x, HR.out, HS21.out.sub (by simp) (by have := HS21.out.nd; simp at this ⊢; omega)⟩
        · refine alloc109_step rfl rfl rfl ?_
          intro V23 g9 hV hG
          have HS24 : Hid (LS w O O2 b s s2 (some c1) [(g9, mnL mn0, 109), (g7, mnL m, 109), (g8, flL (0, 0), 32), (w.heap.size + 1 + 1, flL (0, 0), 32), (w.heap.size + 1, exL h2 la ln lc, 102), (w.heap.size, exL h ka kn kc, 102)] V23) := HS0.out.allocE (mnL mn0) 109 hV hG
          refine hK.out _ _ (fun _ => HSS2.out _ _ _ _ _ HS24.out (by simp)) ?_
          clear hK K HS0 hV hG
          simp only [Act.put, List.setIfInBounds_toArray, List.set_cons_succ, List.set_cons_zero]
          refine wpAnyY_one (i := 2) rfl (by kernel_rfl) (fun K hK => ?_)
          refine call95c_step rfl rfl rfl ?_
          intro V25 gd hV hG
          have HS26 : Hid (LS w O O2 b s s2 (some c1) [(gd, [.int .i64 0], 3), (g9, mnL mn0, 109), (g7, mnL m, 109), (g8, flL (0, 0), 32), (w.heap.size + 1 + 1, flL (0, 0), 32), (w.heap.size + 1, exL h2 la ln lc, 102), (w.heap.size, exL h ka kn kc, 102)] V25) := HS24.out.allocE _ 3 hV hG
          refine hK.out _ _ (fun _ => HSS2.out _ _ _ _ _ HS26.out (by simp)) ?_
          clear hK K HS24 hV hG
          simp only [Act.put, List.setIfInBounds_toArray, List.set_cons_succ, List.set_cons_zero]
          refine wpAnyY_one (i := 3) rfl (by kernel_rfl) (fun K hK => ?_)
          refine call89_step rfl rfl rfl rfl rfl rfl ?_
          refine (HA3'.out _ _ _ _ gd HS26.out (by simp)).mono ?_
          rintro e V27 ⟨mt_x, mx_x, mp_x, mn_x, f1_x, f2_x, rfl, hV⟩
          refine ⟨_, rfl, ?_⟩
          obtain ⟨m_x, oc_x, O2_x, s2_x, hm, hRQ, hLS⟩ := hV.out
          have HS28 : Hid (LS w O O2_x b s s2_x oc_x [(gd, [.int .i64 0], 3), (g9, mnL mn0, 109), (g7, mnL m, 109), (g8, flL (0, 0), 32), (w.heap.size + 1 + 1, flL (0, 0), 32), (w.heap.size + 1, exL h2 la ln lc, 102), (w.heap.size, exL h ka kn kc, 102)] V27) := hLS
          have HR : Hid (RQ r2 m_x (f1_x, f2_x) oc_x ∧ m_x.isText = mt_x ∧ bs m_x.text = mx_x ∧ m_x.place = mp_x ∧ m_x.num = mn_x) := ⟨hRQ, hm⟩
          refine hK.out _ _ (fun _ => HSS2.out _ _ _ _ _ HS28.out (by simp)) ?_
          clear hK K HS26 hV hm hRQ hLS
          simp only [Act.put, List.setIfInBounds_toArray, List.set_cons_succ, List.set_cons_zero]
          refine wpAnyY_takeD (i := 4) 23 (v := .tuple #[.agg #[.bool mt_x, .string mx_x, .int .i64 mp_x, .int .i64 mn_x], .agg #[.int .i64 f1_x, .int .i64 f2_x]]) rfl rfl (by kernel_rfl) (by kernel_rfl) (late_of (by kernel_rfl)) (by kernel_rfl) (by kernel_rfl) (fun _ _ _ h => h) (HSS2.out _ _ _ _ _ HS28.out (by simp)) (Or.inl ⟨by rfl, by (intro W hW; obtain ⟨_, _, _, _, _⟩ := hW; go_simp)⟩) ?_
          simp only [Act.put, List.setIfInBounds_toArray, List.set_cons_succ, List.set_cons_zero]
          refine wpAnyY_takeD (i := 5) 28 (v := .agg #[.bool mt_x, .string mx_x, .int .i64 mp_x, .int .i64 mn_x]) rfl rfl (by kernel_rfl) (by kernel_rfl) (late_of (by kernel_rfl)) (by kernel_rfl) (by kernel_rfl) (fun _ _ _ h => h) (HSS2.out _ _ _ _ _ HS28.out (by simp)) (Or.inl ⟨by rfl, by (intro W hW; obtain ⟨_, _, _, _, _⟩ := hW; go_simp)⟩) ?_
          simp only [Act.put, List.setIfInBounds_toArray, List.set_cons_succ, List.set_cons_zero]
          refine wpAnyY_takeD (i := 6) 29 (v := .agg #[.int .i64 f1_x, .int .i64 f2_x]) rfl rfl (by kernel_rfl) (by kernel_rfl) (late_of (by kernel_rfl)) (by kernel_rfl) (by kernel_rfl) (fun _ _ _ h => h) (HSS2.out _ _ _ _ _ HS28.out (by simp)) (Or.inl ⟨by rfl, by (intro W hW; obtain ⟨_, _, _, _, _⟩ := hW; go_simp)⟩) ?_
          simp only [Act.put, List.setIfInBounds_toArray, List.set_cons_succ, List.set_cons_zero]
          refine wpAnyY_one (i := 8) rfl (by kernel_rfl) (fun K hK => ?_)
          have HF31 : Hid (LS w O O2_x b s s2_x oc_x [(g9, mnL mn0, 109), (gd, [.int .i64 0], 3), (g7, mnL m, 109), (g8, flL (0, 0), 32), (w.heap.size + 1 + 1, flL (0, 0), 32), (w.heap.size + 1, exL h2 la ln lc, 102), (w.heap.size, exL h ka kn kc, 102)] V27) := HS28.out.front (L1 := [(gd, [.int .i64 0], 3)]) (L2 := [(g7, mnL m, 109), (g8, flL (0, 0), 32), (w.heap.size + 1 + 1, flL (0, 0), 32), (w.heap.size + 1, exL h2 la ln lc, 102), (w.heap.size, exL h ka kn kc, 102)]) rfl
          refine store109_step rfl rfl rfl rfl rfl (HF31.out.blk (List.mem_cons_self ..)) ?_
          intro V29 hV
          have HS30 : Hid (LS w O O2_x b s s2_x oc_x [(g9, mnL m_x, 109), (gd, [.int .i64 0], 3), (g7, mnL m, 109), (g8, flL (0, 0), 32), (w.heap.size + 1 + 1, flL (0, 0), 32), (w.heap.size + 1, exL h2 la ln lc, 102), (w.heap.size, exL h ka kn kc, 102)] V29) := HF31.out.store109 m_x HR.out.2.2.1.symm (by rw [hV, HR.out.2.1, HR.out.2.2.2.1, HR.out.2.2.2.2])
          refine hK.out _ _ (fun _ => HSS2.out _ _ _ _ _ HS30.out (by simp)) ?_
          clear hK K HS28 hV HF31
          refine wpAnyY_one (i := 9) rfl (by kernel_rfl) (fun K hK => ?_)
          have HF34 : Hid (LS w O O2_x b s s2_x oc_x [(g8, flL (0, 0), 32), (g9, mnL m_x, 109), (gd, [.int .i64 0], 3), (g7, mnL m, 109), (w.heap.size + 1 + 1, flL (0, 0), 32), (w.heap.size + 1, exL h2 la ln lc, 102), (w.heap.size, exL h ka kn kc, 102)] V29) := HS30.out.front (L1 := [(g9, mnL m_x, 109), (gd, [.int .i64 0], 3), (g7, mnL m, 109)]) (L2 := [(w.heap.size + 1 + 1, flL (0, 0), 32), (w.heap.size + 1, exL h2 la ln lc, 102), (w.heap.size, exL h ka kn kc, 102)]) rfl
          refine store32_step rfl rfl rfl rfl rfl (HF34.out.blk (List.mem_cons_self ..)) ?_
          intro V32 hV
          have HS33 : Hid (LS w O O2_x b s s2_x oc_x [(g8, flL (f1_x, f2_x), 32), (g9, mnL m_x, 109), (gd, [.int .i64 0], 3), (g7, mnL m, 109), (w.heap.size + 1 + 1, flL (0, 0), 32), (w.heap.size + 1, exL h2 la ln lc, 102), (w.heap.size, exL h ka kn kc, 102)] V32) := HF34.out.store32 (f1_x, f2_x) hV
          refine hK.out _ _ (fun _ => HSS2.out _ _ _ _ _ HS33.out (by simp)) ?_
          clear hK K HS30 hV HF34
          refine wpAnyY_done (by kernel_rfl) ?_ _
          go_wp2_with fail
          go_meet
          exact ⟨g9, mt_x, mx_x, mp_x, mn_x, f1_x, f2_x, rfl, m_x, oc_x, O2_x, s2_x, HR.out, HS33.out.sub (by simp) (by have := HS33.out.nd; simp at this ⊢; omega)⟩
      case rest =>
        obtain ⟨g9, mt_x, mx_x, mp_x, mn_x, f1_x, f2_x, rfl, m_x, oc_x, O2_x, s2_x, ⟨hRQ, e1, e2, e3, e4⟩, hL⟩ := hcut
        clear HA3' HA3 HSS2 HS0
        obtain ⟨p1, hp1⟩ : ∃ p, p = m.place := ⟨_, rfl⟩
        obtain ⟨p2, hp2⟩ : ∃ p, p = m_x.place := ⟨_, rfl⟩
        have HS5 : Hid (LS w O O2_x b s s2_x oc_x [(g9, mnL m_x, 109), (g7, mnL m, 109), (g8, flL (f1_x, f2_x), 32), (w.heap.size + 1 + 1, flL (0, 0), 32)] wc.drew) := hL.drew
        have HSS5 : Hid (∀ O' s' oc L W, LS w O O' b s s' oc L W → (g7, mnL m, 109) ∈ L → (g9, mnL m_x, 109) ∈ L → (g8, flL (f1_x, f2_x), 32) ∈ L → W.cell? ⟨g7, 2, none⟩ = some (.int .i64 p1) ∧ W.cell? ⟨g9, 2, none⟩ = some (.int .i64 p2) ∧ W.cell? ⟨g8, 0, none⟩ = some (.int .i64 f1_x) ∧ W.cell? ⟨g8, 1, none⟩ = some (.int .i64 f2_x)) := fun O' s' oc L W h1 h2 h3 h4 => by
          rw [hp1, hp2]
          exact ⟨h1.at h2 rfl, h1.at h3 rfl, h1.at h4 rfl, h1.at h4 rfl⟩
        have HE : Hid (∀ W, LS w O O2_x b s s2_x oc_x [(w.heap.size + 1 + 1, flL (f1_x, f2_x), 32), (g9, mnL m_x, 109), (g7, mnL m, 109), (g8, flL (f1_x, f2_x), 32)] W → CPost O b w (costsB c (h, k) (h2, k2)) (.returned (.tuple #[.int .i64 p1, .int .i64 p2, .agg #[.int .i64 f1_x, .int .i64 f2_x]])) W) := by
          intro W hW
          rw [HX2.out]
          cases r2 with
          | error f' =>
            obtain ⟨rfl, hf, -, rfl⟩ := hRQ
            exact ⟨hf, ⟨_, _, rfl⟩, hW.fr⟩
          | ok x =>
            obtain ⟨c2, m'⟩ := x
            obtain ⟨hf, rfl, rfl⟩ := hRQ
            cases hf
            exact ⟨by rw [hp1, hp2], hW.fr, O2_x, s2_x, hW.new, (hW.ck c2 rfl).1⟩
        clear HX2 hRQ hL e1 e2 e3 e4 hp1 hp2
        go_wp2_with fail
        refine wp_region_Y (fun j => [].contains j) (fun W => W.cell? ⟨g7, 2, none⟩ = some (.int .i64 p1) ∧ W.cell? ⟨g9, 2, none⟩ = some (.int .i64 p2) ∧ W.cell? ⟨g8, 0, none⟩ = some (.int .i64 f1_x) ∧ W.cell? ⟨g8, 1, none⟩ = some (.int .i64 f2_x)) (by kernel_rfl) ?_
        refine wpAnyY_takeD (i := 0) 30 (v := .pointer (some ⟨g7, 2, none⟩)) rfl rfl (by kernel_rfl) (by kernel_rfl) (late_of (by kernel_rfl)) (by kernel_rfl) (by kernel_rfl) (fun _ _ _ h => h) (HSS5.out _ _ _ _ _ HS5.out (by simp) (by simp) (by simp)) (Or.inl ⟨by rfl, by (intro W hW; obtain ⟨_, _, _, _⟩ := hW; go_simp)⟩) ?_
        simp only [Act.put, List.setIfInBounds_toArray, List.set_cons_succ, List.set_cons_zero]
        refine wpAnyY_takeD (i := 1) 31 (v := .int .i64 p1) rfl rfl (by kernel_rfl) (by kernel_rfl) (late_of (by kernel_rfl)) (by kernel_rfl) (by kernel_rfl) (fun _ _ _ h => h) (HSS5.out _ _ _ _ _ HS5.out (by simp) (by simp) (by simp)) (Or.inl ⟨by rfl, by (intro W hW; obtain ⟨_, _, _, _⟩ := hW; go_simp)⟩) ?_
        simp only [Act.put, List.setIfInBounds_toArray, List.set_cons_succ, List.set_cons_zero]
        refine wpAnyY_takeD (i := 2) 32 (v := .pointer (some ⟨g9, 2, none⟩)) rfl rfl (by kernel_rfl) (by kernel_rfl) (late_of (by kernel_rfl)) (by kernel_rfl) (by kernel_rfl) (fun _ _ _ h => h) (HSS5.out _ _ _ _ _ HS5.out (by simp) (by simp) (by simp)) (Or.inl ⟨by rfl, by (intro W hW; obtain ⟨_, _, _, _⟩ := hW; go_simp)⟩) ?_
        simp only [Act.put, List.setIfInBounds_toArray, List.set_cons_succ, List.set_cons_zero]
        refine wpAnyY_takeD (i := 3) 33 (v := .int .i64 p2) rfl rfl (by kernel_rfl) (by kernel_rfl) (late_of (by kernel_rfl)) (by kernel_rfl) (by kernel_rfl) (fun _ _ _ h => h) (HSS5.out _ _ _ _ _ HS5.out (by simp) (by simp) (by simp)) (Or.inl ⟨by rfl, by (intro W hW; obtain ⟨_, _, _, _⟩ := hW; go_simp)⟩) ?_
        simp only [Act.put, List.setIfInBounds_toArray, List.set_cons_succ, List.set_cons_zero]
        refine wpAnyY_takeD (i := 4) 34 (v := .agg #[.int .i64 f1_x, .int .i64 f2_x]) rfl rfl (by kernel_rfl) (by kernel_rfl) (late_of (by kernel_rfl)) (by kernel_rfl) (by kernel_rfl) (fun _ _ _ h => h) (HSS5.out _ _ _ _ _ HS5.out (by simp) (by simp) (by simp)) (Or.inl ⟨by rfl, by (intro W hW; obtain ⟨_, _, _, _⟩ := hW; go_simp)⟩) ?_
        simp only [Act.put, List.setIfInBounds_toArray, List.set_cons_succ, List.set_cons_zero]
        refine wpAnyY_takeD (i := 5) 6 (v := .int .i64 p1) rfl rfl (by kernel_rfl) (by kernel_rfl) (late_of (by kernel_rfl)) (by kernel_rfl) (by kernel_rfl) (fun _ _ _ h => h) (HSS5.out _ _ _ _ _ HS5.out (by simp) (by simp) (by simp)) (Or.inl ⟨by rfl, by (intro W hW; obtain ⟨_, _, _, _⟩ := hW; go_simp)⟩) ?_
        simp only [Act.put, List.setIfInBounds_toArray, List.set_cons_succ, List.set_cons_zero]
        refine wpAnyY_takeD (i := 6) 7 (v := .int .i64 p2) rfl rfl (by kernel_rfl) (by kernel_rfl) (late_of (by kernel_rfl)) (by kernel_rfl) (by kernel_rfl) (fun _ _ _ h => h) (HSS5.out _ _ _ _ _ HS5.out (by simp) (by simp) (by simp)) (Or.inl ⟨by rfl, by (intro W hW; obtain ⟨_, _, _, _⟩ := hW; go_simp)⟩) ?_
        simp only [Act.put, List.setIfInBounds_toArray, List.set_cons_succ, List.set_cons_zero]
        refine wpAnyY_one (i := 7) rfl (by kernel_rfl) (fun K hK => ?_)
        have HF3 : Hid (LS w O O2_x b s s2_x oc_x [(w.heap.size + 1 + 1, flL (0, 0), 32), (g9, mnL m_x, 109), (g7, mnL m, 109), (g8, flL (f1_x, f2_x), 32)] wc.drew) := HS5.out.front (L1 := [(g9, mnL m_x, 109), (g7, mnL m, 109), (g8, flL (f1_x, f2_x), 32)]) (L2 := []) rfl
        refine store32_step rfl rfl rfl rfl rfl (HF3.out.blk (List.mem_cons_self ..)) ?_
        intro V1 hV
        have HS2 : Hid (LS w O O2_x b s s2_x oc_x [(w.heap.size + 1 + 1, flL (f1_x, f2_x), 32), (g9, mnL m_x, 109), (g7, mnL m, 109), (g8, flL (f1_x, f2_x), 32)] V1) := HF3.out.store32 (f1_x, f2_x) hV
        refine hK.out _ _ (fun _ => HSS5.out _ _ _ _ _ HS2.out (by simp) (by simp) (by simp)) ?_
        clear hK K HS5 hV HF3
        refine wpAnyY_done (by kernel_rfl) ?_ _
        have HZ' : Hid (LS w O O2_x b s s2_x oc_x [(w.heap.size + 1 + 1, flL (f1_x, f2_x), 32), (g9, mnL m_x, 109), (g7, mnL m, 109), (g8, flL (f1_x, f2_x), 32)] V1) := HS2.out
        have z0 : V1.cell? ⟨w.heap.size + 1 + 1, 0, none⟩ = some (.int .i64 f1_x) := HZ'.out.at (g := w.heap.size + 1 + 1) (cs := flL (f1_x, f2_x)) (ty := 32) (by simp) rfl
        have z1 : V1.cell? ⟨w.heap.size + 1 + 1, 1, none⟩ = some (.int .i64 f2_x) := HZ'.out.at (g := w.heap.size + 1 + 1) (cs := flL (f1_x, f2_x)) (ty := 32) (by simp) rfl
        go_wp2
        refine bodyPost_ret (v := .tuple #[.int .i64 p1, .int .i64 p2, .agg #[.int .i64 f1_x, .int .i64 f2_x]]) ?_ rfl ?_
        · simp only [results, hres]
          go_simp
        · exact HE.out _ HZ'.out

end Go.Proofs.YtlaodgdlkkmmeaaGreat
namespace Go.Proofs.YtlaodgdlkkmmeaaGreat
open Go.RowKit Go.Deep Go.Maps

set_option maxRecDepth 20000 in
set_option maxHeartbeats 1000000 in
theorem wrongC_calls {O : Nat → Prop} {b : Nat} {s : Sl} {c : Ck} (code : Int) (w : World) (h : CkAt O b s c w) :
    Calls Tryz.prog 49 #[.pointer (some ⟨b, 0, none⟩), .int .i64 code] w fun e w' => e = .returned (.agg #[.int .i64 code, .int .i64 c.pl]) ∧ Below w.heap.size w w' := by
  have hres : Tryz.f49.results = #[.cell 4 32] := by kernel_rfl
  have x : w.cell? ⟨b, 24, none⟩ = some (.int .i64 c.pl) := h.c24
  have hlt := h.lt
  have hne : ¬ b = w.heap.size := by omega
  have HB : Hid (∀ o, Below w.heap.size w (w.alloc o)) := fun o => (Below.refl _ _).alloc (Nat.le_refl _) o
  generalize c.pl = pl at *
  clear h
  go_enter Tryz.func49, Tryz.ntmps49
  go_wp2
  refine bodyPost_ret (v := .agg #[.int .i64 code, .int .i64 pl]) ?_ rfl ⟨rfl, HB.out _⟩
  simp only [results, hres]
  go_simp
set_option maxRecDepth 20000 in
set_option maxHeartbeats 1000000 in
theorem modeOf_calls (t : List UInt8) (w : World) : Calls Tryz.prog 54 #[.string (bs t)] w fun e w' => e = .returned (.int .i64 (modeB t)) ∧ w' = w := by
  have e0 : (bs t).toList = t := bs_toList t
  have f1 : ((bs t).toList == [103, 108, 111, 98, 97, 108]) = decide (t = [103, 108, 111, 98, 97, 108]) := by rw [e0, Bool.eq_iff_iff]; simp
  have f2 : ((bs t).toList == [102, 105, 116]) = decide (t = [102, 105, 116]) := by rw [e0, Bool.eq_iff_iff]; simp
  have f3 : ((bs t).toList == [108, 111, 99, 97, 108]) = decide (t = [108, 111, 99, 97, 108]) := by rw [e0, Bool.eq_iff_iff]; simp
  unfold modeB
  generalize bs t = x at *
  clear e0
  by_cases h1 : t = [103, 108, 111, 98, 97, 108]
  · rw [if_pos h1]
    rw [decide_eq_true h1] at f1
    clear h1 f2 f3
    go_enter Tryz.func54, Tryz.ntmps54
    go_wp2
    go_ret
    exact ⟨rfl, rfl⟩
  rw [if_neg h1]
  rw [decide_eq_false h1] at f1
  clear h1
  by_cases h1 : t = [102, 105, 116]
  · rw [if_pos h1]
    rw [decide_eq_true h1] at f2
    clear h1 f3
    go_enter Tryz.func54, Tryz.ntmps54
    go_wp2
    go_ret
    exact ⟨rfl, rfl⟩
  rw [if_neg h1]
  rw [decide_eq_false h1] at f2
  clear h1
  by_cases h1 : t = [108, 111, 99, 97, 108]
  · rw [if_pos h1]
    rw [decide_eq_true h1] at f3
    clear h1
    go_enter Tryz.func54, Tryz.ntmps54
    go_wp2
    go_ret
    exact ⟨rfl, rfl⟩
  rw [if_neg h1]
  rw [decide_eq_false h1] at f3
  clear h1
  go_enter Tryz.func54, Tryz.ntmps54
  go_wp2
  go_ret
  exact ⟨rfl, rfl⟩
theorem costs_err {O : Nat → Prop} {b : Nat} {w : World} {K : Nat} {args : Array Value} {r : Er (Ck × Int × Int)} {f : Int × Int} (h : Calls Tryz.prog K args w (CPost O b w r)) (hr : r = .error f) :
    Calls Tryz.prog K args w fun e w' => ∃ p q, e = .returned (.tuple #[.int .i64 p, .int .i64 q, .agg #[.int .i64 f.1, .int .i64 f.2]]) ∧ f.1 ≠ 0 ∧ Fr O w w' := by
  subst hr
  refine h.mono ?_
  rintro e w' ⟨h1, ⟨p, q, h2⟩, h3⟩
  exact ⟨p, q, h2, h1, h3⟩
theorem costs_ok {O : Nat → Prop} {b : Nat} {w : World} {K : Nat} {args : Array Value} {r : Er (Ck × Int × Int)} {c' : Ck} {p q : Int} (h : Calls Tryz.prog K args w (CPost O b w r)) (hr : r = .ok (c', p, q)) :
    Calls Tryz.prog K args w fun e w' => e = .returned (.tuple #[.int .i64 p, .int .i64 q, .agg #[.int .i64 0, .int .i64 0]]) ∧ Fr O w w' ∧ ∃ O' s', (∀ g, O' g → O g ∨ w.heap.size ≤ g) ∧ CkAt O' b s' c' w' := by
  subst hr; exact h
set_option maxRecDepth 20000 in
set_option maxHeartbeats 4000000 in
theorem clip_calls {B : Nat} {O : Nat → Prop} {b : Nat} {s : Sl} {c : Ck} (h : Hd) (k : Fo) (ka : Option Addr) (kn kc : Nat) (h2 : Hd) (k2 : Fo) (la : Option Addr) (ln lc : Nat) (w : World) (hck : CkAt O b s c w) (hok : CkOk c) (hlow : ∀ g, O g → B ≤ g) (hB : B ≤ w.heap.size)
    (hE : ExAt false (fun g => g < B) w (h, k) ka kn) (hr : okE h k) (hE2 : ExAt false (fun g => g < B) w (h2, k2) la ln) (hr2 : okE h2 k2) :
    Calls Tryz.prog 56 #[.pointer (some ⟨b, 0, none⟩), exV h ka kn kc, exV h2 la ln lc] w (TPost O b w (clipB c (h, k) (h2, k2))) := by
  have hres : Tryz.f56.results = #[.cell 6 32] := by kernel_rfl
  have hS1 := LS.start3 hck hok h ka kn kc h2 la ln lc
  have hC : ∀ O' s' L W, LS w O O' b s s' (some c) L W → Calls Tryz.prog 94 #[.pointer (some ⟨b, 0, none⟩), exV h ka kn kc, exV h2 la ln lc] W (CPost O' b W (costsB c (h, k) (h2, k2))) := fun O' s' L W hL => by
    have hlow' : ∀ g, O' g → B ≤ g := fun q hq => by rcases hL.new q hq with h1 | h1; exact hlow q h1; omega
    have hkp : ∀ q, q < w.heap.size → q < B → W.heap[q]? = w.heap[q]? := fun q hq hqB => hL.fr.block q hq (fun ho => by have := hlow q ho; omega)
    exact costs_calls h k ka kn kc h2 k2 la ln lc W (hL.ck c rfl).1 hok hlow' (Nat.le_trans hB hL.fr.size) ⟨hE.hd, hE.few, foAt_keep hkp hE.kids⟩ hr ⟨hE2.hd, hE2.few, foAt_keep hkp hE2.kids⟩ hr2
  generalize hO1 : (fun g => O g ∧ g < w.heap.size) = O1 at hS1
  clear hO1 hck hok hlow hB hE hr hE2 hr2
  have HS1 : Hid (LS w O O1 b s s (some c) [(w.heap.size + 1 + 1, flL (0, 0), 32), (w.heap.size + 1, exL h2 la ln lc, 102), (w.heap.size, exL h ka kn kc, 102)] (((w.alloc (.cells #[.int .i64 h.kind, .int .i64 h.num, .string (bs h.text), .slice ka kn kc, .int .i64 h.pl] 102)).alloc (.cells #[.int .i64 h2.kind, .int .i64 h2.num, .string (bs h2.text), .slice la ln lc, .int .i64 h2.pl] 102)).alloc (.cells #[.int .i64 0, .int .i64 0] 32))) := hS1
  clear hS1
  unfold exV at hC ⊢
  go_enter Tryz.func56, Tryz.ntmps56
  go_upto_region 1 with (fail)
  generalize (((w.alloc (.cells #[.int .i64 h.kind, .int .i64 h.num, .string (bs h.text), .slice ka kn kc, .int .i64 h.pl] 102)).alloc (.cells #[.int .i64 h2.kind, .int .i64 h2.num, .string (bs h2.text), .slice la ln lc, .int .i64 h2.pl] 102)).alloc (.cells #[.int .i64 0, .int .i64 0] 32)) = w1 at *
  have x0 : w1.cell? ⟨w.heap.size, 0, none⟩ = some (.int .i64 h.kind) := HS1.out.at (g := w.heap.size) (cs := exL h ka kn kc) (ty := 102) (by simp) rfl
  have x1 : w1.cell? ⟨w.heap.size, 1, none⟩ = some (.int .i64 h.num) := HS1.out.at (g := w.heap.size) (cs := exL h ka kn kc) (ty := 102) (by simp) rfl
  have x2 : w1.cell? ⟨w.heap.size, 2, none⟩ = some (.string (bs h.text)) := HS1.out.at (g := w.heap.size) (cs := exL h ka kn kc) (ty := 102) (by simp) rfl
  have x3 : w1.cell? ⟨w.heap.size, 3, none⟩ = some (.slice ka kn kc) := HS1.out.at (g := w.heap.size) (cs := exL h ka kn kc) (ty := 102) (by simp) rfl
  have x4 : w1.cell? ⟨w.heap.size, 4, none⟩ = some (.int .i64 h.pl) := HS1.out.at (g := w.heap.size) (cs := exL h ka kn kc) (ty := 102) (by simp) rfl
  have y0 : w1.cell? ⟨w.heap.size + 1, 0, none⟩ = some (.int .i64 h2.kind) := HS1.out.at (g := w.heap.size + 1) (cs := exL h2 la ln lc) (ty := 102) (by simp) rfl
  have y1 : w1.cell? ⟨w.heap.size + 1, 1, none⟩ = some (.int .i64 h2.num) := HS1.out.at (g := w.heap.size + 1) (cs := exL h2 la ln lc) (ty := 102) (by simp) rfl
  have y2 : w1.cell? ⟨w.heap.size + 1, 2, none⟩ = some (.string (bs h2.text)) := HS1.out.at (g := w.heap.size + 1) (cs := exL h2 la ln lc) (ty := 102) (by simp) rfl
  have y3 : w1.cell? ⟨w.heap.size + 1, 3, none⟩ = some (.slice la ln lc) := HS1.out.at (g := w.heap.size + 1) (cs := exL h2 la ln lc) (ty := 102) (by simp) rfl
  have y4 : w1.cell? ⟨w.heap.size + 1, 4, none⟩ = some (.int .i64 h2.pl) := HS1.out.at (g := w.heap.size + 1) (cs := exL h2 la ln lc) (ty := 102) (by simp) rfl
  have HC0 := hC O1 s _ w1 HS1.out
  clear hC
  cases hl : costsB c (h, k) (h2, k2) with
  | error f =>
    have HL : Hid (Calls Tryz.prog 94 #[.pointer (some ⟨b, 0, none⟩), .agg #[.int .i64 h.kind, .int .i64 h.num, .string (bs h.text), .slice ka kn kc, .int .i64 h.pl], .agg #[.int .i64 h2.kind, .int .i64 h2.num, .string (bs h2.text), .slice la ln lc, .int .i64 h2.pl]] w1 fun e w' => ∃ p q, e = .returned (.tuple #[.int .i64 p, .int .i64 q, .agg #[.int .i64 f.1, .int .i64 f.2]]) ∧ f.1 ≠ 0 ∧ Fr O1 w1 w') := costs_err HC0 hl
    have HX : Hid (clipB c (h, k) (h2, k2) = .error f) := by show _ = _; simp only [clipB, hl]
    clear hl HC0
    obtain ⟨f1, f2⟩ := f
    simp only at HL
    go_wp2_with fail
    refine HL.out.mono ?_
    rintro e w3 ⟨p, q, rfl, hf, hfr⟩
    have HF : Hid (f1 ≠ 0) := hf
    have hq : (f1 == 0) = false := by rw [beq_eq_false_iff_ne]; exact hf
    have HB : Hid (LS w O _ b s s none _ w3) := HS1.out.go (O' := O1) (oc' := none) hfr (fun _ h => .inl h) (fun c hc => by cases hc)
    clear hf HL x0 x1 x2 x3 x4 y0 y1 y2 y3 y4 HS1 hfr
    have z0 : w3.cell? ⟨w.heap.size + 1 + 1, 0, none⟩ = some (.int .i64 0) := HB.out.at (g := w.heap.size + 1 + 1) (cs := flL (0, 0)) (ty := 32) (by simp) rfl
    have z1 : w3.cell? ⟨w.heap.size + 1 + 1, 1, none⟩ = some (.int .i64 0) := HB.out.at (g := w.heap.size + 1 + 1) (cs := flL (0, 0)) (ty := 32) (by simp) rfl
    have zf : ∀ i, w3.frozen? ⟨w.heap.size + 1 + 1, i, none⟩ = false := fun i => HB.out.fz (g := w.heap.size + 1 + 1) (cs := flL (0, 0)) (ty := 32) (by simp) i
    have hl2 : w.heap.size + 1 + 1 < w3.heap.size := HB.out.lt (g := w.heap.size + 1 + 1) (cs := flL (0, 0)) (ty := 32) (by simp)
    have hn2 : ¬ w.heap.size + 1 + 1 = w3.heap.size := by omega
    go_wp2
    refine bodyPost_ret (v := flV (f1, f2)) ?_ rfl ?_
    · simp only [results, hres]
      unfold flV
      simp only
      go_simp
    · show TPost _ _ _ _ _ _
      rw [HX.out]
      exact ⟨HF.out, rfl, ((HB.out.fr.setCell (.inr (by omega)) _ _).setCell (.inr (by omega)) _ _).alloc _⟩
  | ok x =>
    obtain ⟨c', p, q⟩ := x
    have HL : Hid (Calls Tryz.prog 94 #[.pointer (some ⟨b, 0, none⟩), .agg #[.int .i64 h.kind, .int .i64 h.num, .string (bs h.text), .slice ka kn kc, .int .i64 h.pl], .agg #[.int .i64 h2.kind, .int .i64 h2.num, .string (bs h2.text), .slice la ln lc, .int .i64 h2.pl]] w1 fun e w' => e = .returned (.tuple #[.int .i64 p, .int .i64 q, .agg #[.int .i64 0, .int .i64 0]]) ∧ Fr O1 w1 w' ∧ ∃ O' s', (∀ g, O' g → O1 g ∨ w1.heap.size ≤ g) ∧ CkAt O' b s' c' w') := costs_ok HC0 hl
    have HX : Hid (clipB c (h, k) (h2, k2) = .ok { c' with front := p, back := q }) := by show _ = _; simp only [clipB, hl]
    clear hl HC0
    go_wp2_with fail
    refine HL.out.mono ?_
    rintro e w3 ⟨rfl, hfr, O', s', hO', hck'⟩
    have hsz := HS1.out.fr.size
    have HN : Hid ((∀ g, O' g → O g ∨ w.heap.size ≤ g) ∧ Fr O w w3 ∧ CkAt O' b s' c' w3 ∧ Lc O' w3 (w.heap.size + 1 + 1) (flL (0, 0)) 32) := by
      refine ⟨fun g hg => ?_, HS1.out.fr.trans hfr HS1.out.new, hck', (HS1.out.loc (w.heap.size + 1 + 1, flL (0, 0), 32) (by simp)).1.fr hfr hO'⟩
      rcases hO' g hg with h1 | h1
      · exact HS1.out.new g h1
      · exact .inr (by omega)
    clear HL x0 x1 x2 x3 x4 y0 y1 y2 y3 y4 HS1 hfr hO' hck' hsz
    have z0 : w3.cell? ⟨w.heap.size + 1 + 1, 0, none⟩ = some (.int .i64 0) := HN.out.2.2.2.cell rfl
    have z1 : w3.cell? ⟨w.heap.size + 1 + 1, 1, none⟩ = some (.int .i64 0) := HN.out.2.2.2.cell rfl
    have zf : ∀ i, w3.frozen? ⟨w.heap.size + 1 + 1, i, none⟩ = false := fun i => HN.out.2.2.2.fz i
    have b8 : w3.cell? ⟨b, 8, none⟩ = some (.int .i64 c'.front) := HN.out.2.2.1.c8
    have b9 : w3.cell? ⟨b, 9, none⟩ = some (.int .i64 c'.back) := HN.out.2.2.1.c9
    have bf : ∀ i, w3.frozen? ⟨b, i, none⟩ = false := fun i => HN.out.2.2.1.fz i
    have hl2 : w.heap.size + 1 + 1 < w3.heap.size := HN.out.2.2.2.lt
    have hlb : b < w3.heap.size := HN.out.2.2.1.lt
    have hn2 : ¬ w.heap.size + 1 + 1 = w3.heap.size := by omega
    have hnb : ¬ b = w3.heap.size := by omega
    have hbr : ¬ w.heap.size + 1 + 1 = b := fun e => HN.out.2.2.2.off (by rw [e]; exact HN.out.2.2.1.inB)
    have hbr2 : ¬ b = w.heap.size + 1 + 1 := fun e => hbr e.symm
    generalize c'.front = fr0 at *
    generalize c'.back = bk0 at *
    go_wp2
    refine bodyPost_ret (v := flV (0, 0)) ?_ rfl ?_
    · simp only [results, hres]
      unfold flV
      simp only
      go_simp
    · show TPost _ _ _ _ _ _
      rw [HX.out]
      have hob := HN.out.1 b HN.out.2.2.1.inB
      refine ⟨rfl, ((((HN.out.2.1.setCell hob _ _).setCell hob _ _).setCell (.inr (by omega)) _ _).setCell (.inr (by omega)) _ _).alloc _, O', s', HN.out.1, ?_⟩
      have h1 : CkAt O' b s' { c' with front := p } (w3.setCell ⟨b, 8, none⟩ (.int .i64 p)) := HN.out.2.2.1.put rfl rfl rfl rfl rfl rfl
      have h2 : CkAt O' b s' { c' with front := p, back := q } ((w3.setCell ⟨b, 8, none⟩ (.int .i64 p)).setCell ⟨b, 9, none⟩ (.int .i64 q)) := h1.put rfl rfl rfl rfl rfl rfl
      exact (ck_set (ck_set h2 HN.out.2.2.2.off _ _) HN.out.2.2.2.off _ _).alloc _

end Go.Proofs.YtlaodgdlkkmmeaaGreat
namespace Go.Proofs.YtlaodgdlkkmmeaaGreat
open Go.RowKit Go.Deep Go.Maps

theorem askQ_ok {q : Mn → Int} {c c' : Ck} {h : Hd} {k : Fo} {m : Mn} (hok : CkOk c) (hr : okE h k) (htx : h.text.length ≤ maxLen) (hs : shortF k) (he : askQ q c (h, k) = .ok (c', m)) : CkOk c' ∧ MnOk c'.values.length m ∧ Sm c c' ∧ q m = 0 := by
  unfold askQ at he
  split at he
  · cases he
  · rename_i c1 m1 hx
    split at he
    · rename_i h0
      cases he
      obtain ⟨k1, k2, k3⟩ := askE_ok hok hr htx hs hx
      exact ⟨k1, k2, k3, h0⟩
    · cases he
theorem costsB_ok {c c' : Ck} {h h2 : Hd} {k k2 : Fo} {p q : Int} (hok : CkOk c) (hr : okE h k) (htx : h.text.length ≤ maxLen) (hs : shortF k) (hr2 : okE h2 k2) (htx2 : h2.text.length ≤ maxLen) (hs2 : shortF k2) (he : costsB c (h, k) (h2, k2) = .ok (c', p, q)) : CkOk c' ∧ Sm c c' := by
  unfold costsB at he
  split at he
  · cases he
  · rename_i c1 m1 hx
    split at he
    · cases he
    · rename_i c2 m2 hy
      cases he
      obtain ⟨k1, -, k3, -⟩ := askQ_ok hok hr htx hs hx
      obtain ⟨j1, -, j3, -⟩ := askQ_ok k1 hr2 htx2 hs2 hy
      exact ⟨j1, k3.trans j3⟩
theorem info80 : (Tryz.prog.info? 80).map (fun i => (i.zero, i.size, i.bytes)) = some (some (.agg #[.int .i64 0, .int .i64 0]), 2, 16) := by kernel_rfl
theorem pc_one (p : Int × Int) : ∀ u ∈ pcCells p, u.oneCell' = true := by
  intro u hu
  simp [pcCells] at hu
  rcases hu with rfl | rfl <;> rfl
theorem LS.addPc {w W w4 : World} {O0 O : Nat → Prop} {b : Nat} {s0 s : Sl} {c : Ck} {L : List Lo} {d : Int × Int} (h : LS w O0 O b s0 s (some c) L W) (hp : c.pieces.length < 4) {v' : Value} (hown : w4.ownsRow 0 80 2 v' (c.pieces.length + 1) (pcRow c.pieces ++ pcCells d)) (hg : W.grownBy w4 s.pv.ownBlock) (hfr : ∀ g, v'.ownBlock = some g → some g = s.pv.ownBlock ∨ W.heap.size ≤ g) :
    w4.cell? ⟨b, 3, none⟩ = some s.pv ∧ w4.frozen? ⟨b, 3, none⟩ = false ∧ ∃ O2 s2, LS w O0 O2 b s0 s2 (some { c with pieces := c.pieces ++ [d] }) L (w4.setCell ⟨b, 3, none⟩ v') := by
  obtain ⟨a1, a2, a3⟩ := h.ck c rfl
  obtain ⟨k1, k2, k3⟩ := a1.addPc hown hg hfr
  have hsz := h.fr.size
  have hsz4 : W.heap.size ≤ (w4.setCell ⟨b, 3, none⟩ v').heap.size := by have := hg.size; simpa [World.setCell] using this
  refine ⟨k1, k2, fun g => (O g ∨ W.heap.size ≤ g) ∧ g < (w4.setCell ⟨b, 3, none⟩ v').heap.size, { s with pv := v' }, fun c' hc => ?_, ?_, fun g hg2 => ?_, fun g hg2 => hg2.2, fun x hx => ?_, h.nd⟩
  · cases hc
    exact ⟨k3.tight, ⟨a2.vals, a2.same, a2.few, a2.names, a2.alpha, a2.sub, by simp; omega⟩, a3⟩
  · exact (h.fr.grown hg (fun k hk => h.new k (a1.inP k hk))).setCell (h.new b a1.inB) _ _
  · rcases hg2.1 with h1 | h1
    · exact h.new g h1
    · exact .inr (by omega)
  · obtain ⟨l1, l2⟩ := h.loc x hx
    refine ⟨⟨heap_other ?_ (fun e => l1.off (e ▸ a1.inB)), fun hh => ?_⟩, l2⟩
    · rw [hg.block _ l1.lt (fun e => l1.off (a1.inP _ e.symm))]; exact l1.heap
    · rcases hh.1 with h1 | h1
      · exact l1.off h1
      · have := l1.lt; omega
set_option maxRecDepth 20000 in
set_option maxHeartbeats 4000000 in
theorem gap_calls {B : Nat} {O : Nat → Prop} {b : Nat} {s : Sl} {c : Ck} (h : Hd) (k : Fo) (ka : Option Addr) (kn kc : Nat) (h2 : Hd) (k2 : Fo) (la : Option Addr) (ln lc : Nat) (w : World) (hck : CkAt O b s c w) (hok : CkOk c) (hlow : ∀ g, O g → B ≤ g) (hB : B ≤ w.heap.size)
    (hE : ExAt false (fun g => g < B) w (h, k) ka kn) (hr : okE h k) (hE2 : ExAt false (fun g => g < B) w (h2, k2) la ln) (hr2 : okE h2 k2) :
    Calls Tryz.prog 53 #[.pointer (some ⟨b, 0, none⟩), exV h ka kn kc, exV h2 la ln lc] w (TPost O b w (gapB c (h, k) (h2, k2))) := by
  have hres : Tryz.f53.results = #[.cell 6 32] := by kernel_rfl
  have hS1 := LS.start3 hck hok h ka kn kc h2 la ln lc
  have hC : ∀ O' s' L W, LS w O O' b s s' (some c) L W → Calls Tryz.prog 94 #[.pointer (some ⟨b, 0, none⟩), exV h ka kn kc, exV h2 la ln lc] W (CPost O' b W (costsB c (h, k) (h2, k2))) := fun O' s' L W hL => by
    have hlow' : ∀ g, O' g → B ≤ g := fun q hq => by rcases hL.new q hq with h1 | h1; exact hlow q h1; omega
    have hkp : ∀ q, q < w.heap.size → q < B → W.heap[q]? = w.heap[q]? := fun q hq hqB => hL.fr.block q hq (fun ho => by have := hlow q ho; omega)
    exact costs_calls h k ka kn kc h2 k2 la ln lc W (hL.ck c rfl).1 hok hlow' (Nat.le_trans hB hL.fr.size) ⟨hE.hd, hE.few, foAt_keep hkp hE.kids⟩ hr ⟨hE2.hd, hE2.few, foAt_keep hkp hE2.kids⟩ hr2
  have hpcs := hok.pcs
  have hokC : ∀ c' p q, costsB c (h, k) (h2, k2) = .ok (c', p, q) → CkOk c' ∧ Sm c c' := fun c' p q he => costsB_ok hok hr hE.hd.text (foAt_short hE.kids) hr2 hE2.hd.text (foAt_short hE2.kids) he
  obtain ⟨pa, pcap, hpv⟩ := owned_shape hck.pieces
  generalize hO1 : (fun g => O g ∧ g < w.heap.size) = O1 at hS1
  clear hO1 hck hok hlow hB hE hr hE2 hr2
  have HS1 : Hid (LS w O O1 b s s (some c) [(w.heap.size + 1 + 1, flL (0, 0), 32), (w.heap.size + 1, exL h2 la ln lc, 102), (w.heap.size, exL h ka kn kc, 102)] (((w.alloc (.cells #[.int .i64 h.kind, .int .i64 h.num, .string (bs h.text), .slice ka kn kc, .int .i64 h.pl] 102)).alloc (.cells #[.int .i64 h2.kind, .int .i64 h2.num, .string (bs h2.text), .slice la ln lc, .int .i64 h2.pl] 102)).alloc (.cells #[.int .i64 0, .int .i64 0] 32))) := hS1
  clear hS1
  unfold exV at hC ⊢
  go_enter Tryz.func53, Tryz.ntmps53
  go_upto_region 1 with (fail)
  generalize (((w.alloc (.cells #[.int .i64 h.kind, .int .i64 h.num, .string (bs h.text), .slice ka kn kc, .int .i64 h.pl] 102)).alloc (.cells #[.int .i64 h2.kind, .int .i64 h2.num, .string (bs h2.text), .slice la ln lc, .int .i64 h2.pl] 102)).alloc (.cells #[.int .i64 0, .int .i64 0] 32)) = w1 at *
  have x0 : w1.cell? ⟨w.heap.size, 0, none⟩ = some (.int .i64 h.kind) := HS1.out.at (g := w.heap.size) (cs := exL h ka kn kc) (ty := 102) (by simp) rfl
  have x1 : w1.cell? ⟨w.heap.size, 1, none⟩ = some (.int .i64 h.num) := HS1.out.at (g := w.heap.size) (cs := exL h ka kn kc) (ty := 102) (by simp) rfl
  have x2 : w1.cell? ⟨w.heap.size, 2, none⟩ = some (.string (bs h.text)) := HS1.out.at (g := w.heap.size) (cs := exL h ka kn kc) (ty := 102) (by simp) rfl
  have x3 : w1.cell? ⟨w.heap.size, 3, none⟩ = some (.slice ka kn kc) := HS1.out.at (g := w.heap.size) (cs := exL h ka kn kc) (ty := 102) (by simp) rfl
  have x4 : w1.cell? ⟨w.heap.size, 4, none⟩ = some (.int .i64 h.pl) := HS1.out.at (g := w.heap.size) (cs := exL h ka kn kc) (ty := 102) (by simp) rfl
  have y0 : w1.cell? ⟨w.heap.size + 1, 0, none⟩ = some (.int .i64 h2.kind) := HS1.out.at (g := w.heap.size + 1) (cs := exL h2 la ln lc) (ty := 102) (by simp) rfl
  have y1 : w1.cell? ⟨w.heap.size + 1, 1, none⟩ = some (.int .i64 h2.num) := HS1.out.at (g := w.heap.size + 1) (cs := exL h2 la ln lc) (ty := 102) (by simp) rfl
  have y2 : w1.cell? ⟨w.heap.size + 1, 2, none⟩ = some (.string (bs h2.text)) := HS1.out.at (g := w.heap.size + 1) (cs := exL h2 la ln lc) (ty := 102) (by simp) rfl
  have y3 : w1.cell? ⟨w.heap.size + 1, 3, none⟩ = some (.slice la ln lc) := HS1.out.at (g := w.heap.size + 1) (cs := exL h2 la ln lc) (ty := 102) (by simp) rfl
  have y4 : w1.cell? ⟨w.heap.size + 1, 4, none⟩ = some (.int .i64 h2.pl) := HS1.out.at (g := w.heap.size + 1) (cs := exL h2 la ln lc) (ty := 102) (by simp) rfl
  have HC0 := hC O1 s _ w1 HS1.out
  clear hC
  have b3 : w1.cell? ⟨b, 3, none⟩ = some (.slice pa c.pieces.length pcap) := by have := (HS1.out.ck c rfl).1.c3; rw [hpv] at this; exact this
  by_cases hp4 : c.pieces.length = 4
  · have HX : Hid (gapB c (h, k) (h2, k2) = .error (72, c.pl)) := by show _ = _; unfold gapB; rw [if_pos hp4]
    have HW : Hid (Calls Tryz.prog 49 #[.pointer (some ⟨b, 0, none⟩), .int .i64 72] w1 fun e w' => e = .returned (.agg #[.int .i64 72, .int .i64 c.pl]) ∧ Below w1.heap.size w1 w') := wrongC_calls 72 w1 (HS1.out.ck c rfl).1
    have hq4 : ((c.pieces.length : Int) == 4) = true := by rw [beq_iff_eq]; omega
    generalize c.pieces.length = np at *
    generalize c.pl = cpl at *
    clear HC0 hp4 hpv hokC hpcs
    go_wp2_with fail
    refine HW.out.mono ?_
    rintro e w3 ⟨rfl, hb⟩
    have HB := HS1.out.next hb
    have HB' : Hid (LS w O O1 b s s (some c) _ w3) := HB
    have z0 : w3.cell? ⟨w.heap.size + 1 + 1, 0, none⟩ = some (.int .i64 0) := HB.at (g := w.heap.size + 1 + 1) (cs := flL (0, 0)) (ty := 32) (by simp) rfl
    have z1 : w3.cell? ⟨w.heap.size + 1 + 1, 1, none⟩ = some (.int .i64 0) := HB.at (g := w.heap.size + 1 + 1) (cs := flL (0, 0)) (ty := 32) (by simp) rfl
    have zf : ∀ i, w3.frozen? ⟨w.heap.size + 1 + 1, i, none⟩ = false := fun i => HB'.out.fz (g := w.heap.size + 1 + 1) (cs := flL (0, 0)) (ty := 32) (by simp) i
    clear HB hb HW HS1 x0 x1 x2 x3 x4 y0 y1 y2 y3 y4 b3
    go_wp2
    refine bodyPost_ret (v := flV (72, cpl)) ?_ rfl ?_
    · simp only [results, hres]
      unfold flV
      simp only
      go_simp
    · show TPost _ _ _ _ _ _
      rw [HX.out]
      exact ⟨by simp, rfl, (HB'.out.fr.setCell (.inr (by omega)) _ _).setCell (.inr (by omega)) _ _⟩
  have hq4 : ((c.pieces.length : Int) == 4) = false := by rw [beq_eq_false_iff_ne]; omega
  cases hl : costsB c (h, k) (h2, k2) with
  | error f =>
    have HL : Hid (Calls Tryz.prog 94 #[.pointer (some ⟨b, 0, none⟩), .agg #[.int .i64 h.kind, .int .i64 h.num, .string (bs h.text), .slice ka kn kc, .int .i64 h.pl], .agg #[.int .i64 h2.kind, .int .i64 h2.num, .string (bs h2.text), .slice la ln lc, .int .i64 h2.pl]] w1 fun e w' => ∃ p q, e = .returned (.tuple #[.int .i64 p, .int .i64 q, .agg #[.int .i64 f.1, .int .i64 f.2]]) ∧ f.1 ≠ 0 ∧ Fr O1 w1 w') := costs_err HC0 hl
    have HX : Hid (gapB c (h, k) (h2, k2) = .error f) := by show _ = _; unfold gapB; rw [if_neg hp4]; simp only [hl]
    clear hl HC0 hp4 hpv hokC hpcs
    generalize c.pieces.length = np at *
    obtain ⟨f1, f2⟩ := f
    simp only at HL
    go_wp2_with fail
    refine HL.out.mono ?_
    rintro e w3 ⟨p, q, rfl, hf, hfr⟩
    have HF : Hid (f1 ≠ 0) := hf
    have hq : (f1 == 0) = false := by rw [beq_eq_false_iff_ne]; exact hf
    have HB : Hid (LS w O _ b s s none _ w3) := HS1.out.go (O' := O1) (oc' := none) hfr (fun _ h => .inl h) (fun c hc => by cases hc)
    clear hf HL x0 x1 x2 x3 x4 y0 y1 y2 y3 y4 b3 HS1 hfr
    have z0 : w3.cell? ⟨w.heap.size + 1 + 1, 0, none⟩ = some (.int .i64 0) := HB.out.at (g := w.heap.size + 1 + 1) (cs := flL (0, 0)) (ty := 32) (by simp) rfl
    have z1 : w3.cell? ⟨w.heap.size + 1 + 1, 1, none⟩ = some (.int .i64 0) := HB.out.at (g := w.heap.size + 1 + 1) (cs := flL (0, 0)) (ty := 32) (by simp) rfl
    have zf : ∀ i, w3.frozen? ⟨w.heap.size + 1 + 1, i, none⟩ = false := fun i => HB.out.fz (g := w.heap.size + 1 + 1) (cs := flL (0, 0)) (ty := 32) (by simp) i
    have hl2 : w.heap.size + 1 + 1 < w3.heap.size := HB.out.lt (g := w.heap.size + 1 + 1) (cs := flL (0, 0)) (ty := 32) (by simp)
    have hn2 : ¬ w.heap.size + 1 + 1 = w3.heap.size := by omega
    go_wp2
    refine bodyPost_ret (v := flV (f1, f2)) ?_ rfl ?_
    · simp only [results, hres]
      unfold flV
      simp only
      go_simp
    · show TPost _ _ _ _ _ _
      rw [HX.out]
      exact ⟨HF.out, rfl, ((HB.out.fr.setCell (.inr (by omega)) _ _).setCell (.inr (by omega)) _ _).alloc _⟩
  | ok x =>
    obtain ⟨c', p, q⟩ := x
    have HL : Hid (Calls Tryz.prog 94 #[.pointer (some ⟨b, 0, none⟩), .agg #[.int .i64 h.kind, .int .i64 h.num, .string (bs h.text), .slice ka kn kc, .int .i64 h.pl], .agg #[.int .i64 h2.kind, .int .i64 h2.num, .string (bs h2.text), .slice la ln lc, .int .i64 h2.pl]] w1 fun e w' => e = .returned (.tuple #[.int .i64 p, .int .i64 q, .agg #[.int .i64 0, .int .i64 0]]) ∧ Fr O1 w1 w' ∧ ∃ O' s', (∀ g, O' g → O1 g ∨ w1.heap.size ≤ g) ∧ CkAt O' b s' c' w') := costs_ok HC0 hl
    have HX : Hid (gapB c (h, k) (h2, k2) = .ok { c' with pieces := c'.pieces ++ [(p, q)] }) := by show _ = _; unfold gapB; rw [if_neg hp4]; simp only [hl]
    obtain ⟨hok', hsm⟩ := hokC c' p q hl
    have HPL : Hid (c'.pieces.length < 4 ∧ CkOk c') := ⟨by rw [hsm.pieces]; omega, hok'⟩
    clear hl HC0 hp4 hokC hok' hsm hpcs hpv
    generalize c.pieces.length = np at *
    go_wp2_with fail
    refine HL.out.mono ?_
    rintro e w3 ⟨rfl, hfr, O', s', hO', hck'⟩
    have hLS := HS1.out.go (s' := s') (oc' := none) hfr hO' (fun c hc => by cases hc)
    have HN : Hid (LS w O (fun g => O' g ∧ g < w3.heap.size) b s' s' (some c') [(w.heap.size + 1 + 1, flL (0, 0), 32), (w.heap.size + 1, exL h2 la ln lc, 102), (w.heap.size, exL h ka kn kc, 102)] w3) := ⟨fun c2 hc => by cases hc; exact ⟨hck'.tight, HPL.out.2, rfl⟩, hLS.fr, hLS.new, hLS.tight, hLS.loc, hLS.nd⟩
    clear HL x0 x1 x2 x3 x4 y0 y1 y2 y3 y4 HS1 hfr hO' hck' b3 hLS
    obtain ⟨pa', pcap', hpv'⟩ := owned_shape (HN.out.ck c' rfl).1.pieces
    obtain ⟨i0, hi, hz0, hz1, hz2⟩ := info_parts info80
    have hlb : b < w3.heap.size := (HN.out.ck c' rfl).1.lt
    have b3 : w3.cell? ⟨b, 3, none⟩ = some (.slice pa' c'.pieces.length pcap') := by have := (HN.out.ck c' rfl).1.c3; rw [hpv'] at this; exact this
    have hnp : c'.pieces.length < 4 := HPL.out.1
    have HN2 : Hid (LS w O (fun g => O' g ∧ g < w3.heap.size) b s' s' (some c') ((w3.heap.size, flL (0, 0), 32) :: [(w.heap.size + 1 + 1, flL (0, 0), 32), (w.heap.size + 1, exL h2 la ln lc, 102), (w.heap.size, exL h ka kn kc, 102)]) (w3.alloc (.cells #[.int .i64 0, .int .i64 0] 32))) := HN.out.alloc (flL (0, 0)) 32
    have HJO : Hid (∀ o', ((w3.alloc (.cells #[.int .i64 0, .int .i64 0] 32)).alloc o').ownsRow 0 80 2 (.slice pa' c'.pieces.length pcap') c'.pieces.length (pcRow c'.pieces)) := fun o' => by
      have := ((HN2.out.ck c' rfl).1.alloc o').pieces
      rw [hpv'] at this; exact this
    have HJE : Hid (∀ o' v' w5, w5.ownsRow 0 80 2 v' (c'.pieces.length + 1) (pcRow c'.pieces ++ pcCells (p, q)) → ((w3.alloc (.cells #[.int .i64 0, .int .i64 0] 32)).alloc o').grownBy w5 (Value.slice pa' c'.pieces.length pcap').ownBlock → (∀ g, v'.ownBlock = some g → some g = (Value.slice pa' c'.pieces.length pcap').ownBlock ∨ ((w3.alloc (.cells #[.int .i64 0, .int .i64 0] 32)).alloc o').heap.size ≤ g) →
        w5.cell? ⟨b, 3, none⟩ = some (.slice pa' c'.pieces.length pcap') ∧ w5.frozen? ⟨b, 3, none⟩ = false ∧ Hid (∃ O2 s2, LS w O O2 b s' s2 (some { c' with pieces := c'.pieces ++ [(p, q)] }) ((w3.heap.size, flL (0, 0), 32) :: [(w.heap.size + 1 + 1, flL (0, 0), 32), (w.heap.size + 1, exL h2 la ln lc, 102), (w.heap.size, exL h ka kn kc, 102)]) (w5.setCell ⟨b, 3, none⟩ v'))) := by
      intro o' v' w5 ho hg hfr
      rw [← hpv'] at hg hfr ⊢
      exact (HN2.out.next ((Below.refl _ _).alloc (Nat.le_refl _) o')).addPc HPL.out.1 ho hg hfr
    have hnew : Hid (∀ o (j : Nat) (u : Value), (pcCells (p, q))[j]? = some u → ((w3.alloc o).alloc (.cells #[.int .i64 p, .int .i64 q] 80)).cell? ((⟨w3.heap.size + 1, 0, none⟩ : Addr).add j) = some u) := fun o => by
      have := cells_new (w3.alloc o) (pcCells (p, q)) 80
      rw [show (w3.alloc o).heap.size = w3.heap.size + 1 by simp] at this; exact this
    generalize c'.pieces.length = np' at *
    clear HN HN2 HPL hpv'
    go_upto_region 6 with (first
      | (at_builtin; refine wpList_append_fresh rfl (.tmp 35) (.tmp 39) 27 rfl 0 80 i0 _ 2 16 Tryz.underlying27 hi hz0 hz1 hz2 rfl (by decide) _ _ _ rfl (HJO.out _) ⟨w3.heap.size + 1, 0, none⟩ 1 1 (pcCells (p, q)) rfl rfl (hnew.out _) (pc_one _) (by unfold maxLen; omega) (by omega) (Nat.zero_le _) ?_
         intro v' w5 ho hg hfr
         obtain ⟨k1, k2, k3⟩ := HJE.out _ _ _ ho hg hfr
         obtain ⟨ao3, cap3, rfl⟩ := owned_shape ho
         clear ho hg hfr HJE HJO hnew))
    generalize w5.setCell ⟨b, 3, none⟩ (.slice ao3 (np' + 1) cap3) = V at *
    obtain ⟨O2, s2, hL2⟩ := k3.out
    have HB : Hid (LS w O O2 b s' s2 (some { c' with pieces := c'.pieces ++ [(p, q)] }) ((w3.heap.size, flL (0, 0), 32) :: [(w.heap.size + 1 + 1, flL (0, 0), 32), (w.heap.size + 1, exL h2 la ln lc, 102), (w.heap.size, exL h ka kn kc, 102)]) V) := hL2
    clear k1 k2 k3 hL2 b3 hi hz0 hz1 hz2 i0 hlb
    have y0 : V.cell? ⟨w3.heap.size, 0, none⟩ = some (.int .i64 0) := HB.out.at (g := w3.heap.size) (cs := flL (0, 0)) (ty := 32) (by simp) rfl
    have y1 : V.cell? ⟨w3.heap.size, 1, none⟩ = some (.int .i64 0) := HB.out.at (g := w3.heap.size) (cs := flL (0, 0)) (ty := 32) (by simp) rfl
    have z0 : V.cell? ⟨w.heap.size + 1 + 1, 0, none⟩ = some (.int .i64 0) := HB.out.at (g := w.heap.size + 1 + 1) (cs := flL (0, 0)) (ty := 32) (by simp) rfl
    have z1 : V.cell? ⟨w.heap.size + 1 + 1, 1, none⟩ = some (.int .i64 0) := HB.out.at (g := w.heap.size + 1 + 1) (cs := flL (0, 0)) (ty := 32) (by simp) rfl
    have zf : ∀ i, V.frozen? ⟨w.heap.size + 1 + 1, i, none⟩ = false := fun i => HB.out.fz (g := w.heap.size + 1 + 1) (cs := flL (0, 0)) (ty := 32) (by simp) i
    go_wp2
    refine bodyPost_ret (v := flV (0, 0)) ?_ rfl ?_
    · simp only [results, hres]
      unfold flV
      simp only
      go_simp
    · show TPost _ _ _ _ _ _
      rw [HX.out]
      have hoff := (HB.out.loc (w.heap.size + 1 + 1, flL (0, 0), 32) (by simp)).1.off
      exact ⟨rfl, (HB.out.fr.setCell (.inr (by omega)) _ _).setCell (.inr (by omega)) _ _, O2, s2, HB.out.new, ck_set (ck_set (HB.out.ck _ rfl).1 hoff _ _) hoff _ _⟩

end Go.Proofs.YtlaodgdlkkmmeaaGreat
