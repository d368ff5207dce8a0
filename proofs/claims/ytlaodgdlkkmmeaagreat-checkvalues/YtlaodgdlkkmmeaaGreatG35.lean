/-
  A text that must be of a kind: asked. Where an item's call stands: the checker, and blocks of the call's own. An item of one number, whose place is set down: single.
-/
import Derived.Test.YtlaodgdlkkmmeaaGreatCkQ2
import Derived.Test.YtlaodgdlkkmmeaaGreatAlC
namespace Go.Proofs.YtlaodgdlkkmmeaaGreat
open Go.RowKit Go.Deep Go.Maps

set_option maxRecDepth 20000 in
set_option maxHeartbeats 1000000 in
theorem textQ_82 (right : List UInt8 → Bool) (m : Mn) (g : Nat) (w : World) (hg : w.cell? ⟨g, 0, none⟩ = some (.func (.func 82) #[] #[])) (hR : ∀ o, m.isText = true → Calls Tryz.prog 82 #[.string (bs m.text)] (w.alloc o) fun e w' => e = .returned (.bool (right m.text)) ∧ Below (w.alloc o).heap.size (w.alloc o) w') :
    Calls Tryz.prog 123 #[mnV m, .pointer (some ⟨g, 0, none⟩)] w fun e w' => e = .returned (.int .i64 (textQ right m)) ∧ Below w.heap.size w w' := by
  have hlt : g < w.heap.size := World.block_lt_of_cell? w _ hg
  unfold mnV textQ
  obtain ⟨mt, mx, mp, mn⟩ := m
  simp only at hR ⊢
  have HB : Hid (∀ o, Below w.heap.size w (w.alloc o)) := fun o => (Below.refl _ _).alloc (Nat.le_refl _) o
  generalize hrr : right mx = r at *
  clear hrr
  generalize bs mx = bx at *
  cases mt with
  | false =>
    clear hR
    go_enter Tryz.func123, Tryz.ntmps123
    go_wp2
    go_ret
    exact ⟨rfl, HB.out _⟩
  | true =>
    have HR : Hid (∀ o, Calls Tryz.prog 82 #[.string bx] (w.alloc o) fun e w' => e = .returned (.bool r) ∧ Below (w.alloc o).heap.size (w.alloc o) w') := fun o => hR o rfl
    clear hR
    cases r with
    | false =>
      go_enter Tryz.func123, Tryz.ntmps123
      go_wp2_with fail
      refine (HR.out _).mono ?_
      rintro e w3 ⟨rfl, hb⟩
      have HB3 : Hid (Below w.heap.size w w3) := (HB.out _).trans (hb.mono (by simp))
      clear hb HR HB
      go_wp2
      go_ret
      exact ⟨rfl, HB3.out⟩
    | true =>
      go_enter Tryz.func123, Tryz.ntmps123
      go_wp2_with fail
      refine (HR.out _).mono ?_
      rintro e w3 ⟨rfl, hb⟩
      have HB3 : Hid (Below w.heap.size w w3) := (HB.out _).trans (hb.mono (by simp))
      clear hb HR HB
      go_wp2
      go_ret
      exact ⟨rfl, HB3.out⟩
set_option maxRecDepth 20000 in
set_option maxHeartbeats 1000000 in
theorem textQ_92 (right : List UInt8 → Bool) (m : Mn) (g : Nat) (gc : Nat) (w : World) (hg : w.cell? ⟨g, 0, none⟩ = some (.func (.func 92) #[] #[.pointer (some ⟨gc, 0, none⟩)])) (hR : ∀ o, m.isText = true → Calls Tryz.prog 92 #[.string (bs m.text), .pointer (some ⟨gc, 0, none⟩)] (w.alloc o) fun e w' => e = .returned (.bool (right m.text)) ∧ Below (w.alloc o).heap.size (w.alloc o) w') :
    Calls Tryz.prog 123 #[mnV m, .pointer (some ⟨g, 0, none⟩)] w fun e w' => e = .returned (.int .i64 (textQ right m)) ∧ Below w.heap.size w w' := by
  have hlt : g < w.heap.size := World.block_lt_of_cell? w _ hg
  unfold mnV textQ
  obtain ⟨mt, mx, mp, mn⟩ := m
  simp only at hR ⊢
  have HB : Hid (∀ o, Below w.heap.size w (w.alloc o)) := fun o => (Below.refl _ _).alloc (Nat.le_refl _) o
  generalize hrr : right mx = r at *
  clear hrr
  generalize bs mx = bx at *
  cases mt with
  | false =>
    clear hR
    go_enter Tryz.func123, Tryz.ntmps123
    go_wp2
    go_ret
    exact ⟨rfl, HB.out _⟩
  | true =>
    have HR : Hid (∀ o, Calls Tryz.prog 92 #[.string bx, .pointer (some ⟨gc, 0, none⟩)] (w.alloc o) fun e w' => e = .returned (.bool r) ∧ Below (w.alloc o).heap.size (w.alloc o) w') := fun o => hR o rfl
    clear hR
    cases r with
    | false =>
      go_enter Tryz.func123, Tryz.ntmps123
      go_wp2_with fail
      refine (HR.out _).mono ?_
      rintro e w3 ⟨rfl, hb⟩
      have HB3 : Hid (Below w.heap.size w w3) := (HB.out _).trans (hb.mono (by simp))
      clear hb HR HB
      go_wp2
      go_ret
      exact ⟨rfl, HB3.out⟩
    | true =>
      go_enter Tryz.func123, Tryz.ntmps123
      go_wp2_with fail
      refine (HR.out _).mono ?_
      rintro e w3 ⟨rfl, hb⟩
      have HB3 : Hid (Below w.heap.size w w3) := (HB.out _).trans (hb.mono (by simp))
      clear hb HR HB
      go_wp2
      go_ret
      exact ⟨rfl, HB3.out⟩
set_option maxRecDepth 20000 in
set_option maxHeartbeats 4000000 in
theorem asked_123 {B : Nat} {O : Nat → Prop} {b : Nat} {s : Sl} {c : Ck} (h : Hd) (k : Fo) (ka : Option Addr) (kn kc g : Nat) (q : Mn → Int) (G : (Nat → Prop) → World → Prop) (w : World) (hck : CkAt O b s c w) (hok : CkOk c) (hlow : ∀ g, O g → B ≤ g) (hB : B ≤ w.heap.size)
    (hE : ExAt false (fun g => g < B) w (h, k) ka kn) (hr : okE h k) (hG : G O w) (hGf : ∀ O O' W W', G O W → Fr O W W' → (∀ g, O' g → O g ∨ W.heap.size ≤ g) → G O' W')
    (hQ : ∀ O' s' c' m W, CkAt O' b s' c' W → CkOk c' → Sm c c' → MnOk c'.values.length m → G O' W → Calls Tryz.prog 123 #[mnV m, .pointer (some ⟨g, 0, none⟩)] W fun e w' => e = .returned (.int .i64 (q m)) ∧ Below W.heap.size W w') :
    Calls Tryz.prog 89 #[.pointer (some ⟨b, 0, none⟩), exV h ka kn kc, .func (.func 123) #[] #[.pointer (some ⟨g, 0, none⟩)]] w (XPost O b s w (askQ q c (h, k))) := by
  have hres : Tryz.f89.results = #[.cell 6 109, .cell 7 32] := by kernel_rfl
  have hA := CA.start hck hok h ka kn kc
  have hC : ∀ W, CA w O (fun g => O g ∧ g < w.heap.size) b s s c h ka kn kc W → Calls Tryz.prog 88 #[.pointer (some ⟨b, 0, none⟩), exV h ka kn kc] W (XPost (fun g => O g ∧ g < w.heap.size) b s W (askE c (h, k))) := fun W hW =>
    exprC_calls h k ka kn kc W hW.ck hW.ok (fun g hg => hlow g hg.1) (Nat.le_trans hB hW.fr.size) ⟨hE.hd, hE.few, foAt_keep (fun g hg hgB => hW.fr.block g hg (fun ho => by have := hlow g ho; omega)) hE.kids⟩ hr
  have hG1 : ∀ W, CA w O (fun g => O g ∧ g < w.heap.size) b s s c h ka kn kc W → G (fun g => O g ∧ g < w.heap.size) W := fun W hW => hGf _ _ w W hG hW.fr (fun g hg => .inl hg.1)
  have hokE : ∀ c' m, askE c (h, k) = .ok (c', m) → CkOk c' ∧ MnOk c'.values.length m ∧ Sm c c' := fun c' m he => askE_ok hok hr hE.hd.text (foAt_short hE.kids) he
  generalize hO1 : (fun g => O g ∧ g < w.heap.size) = O1 at hA hC hG1
  clear hO1 hck hok hlow hB hE hr hG
  unfold exV at hC ⊢
  have HA : Hid (CA w O O1 b s s c h ka kn kc (((w.alloc (.cells #[.int .i64 h.kind, .int .i64 h.num, .string (bs h.text), .slice ka kn kc, .int .i64 h.pl] 102)).alloc (.cells #[.bool false, .string ⟨#[]⟩, .int .i64 0, .int .i64 0] 109)).alloc (.cells #[.int .i64 0, .int .i64 0] 32))) := hA
  clear hA
  go_enter Tryz.func89, Tryz.ntmps89
  go_upto_region 1 with (fail)
  generalize (((w.alloc (.cells #[.int .i64 h.kind, .int .i64 h.num, .string (bs h.text), .slice ka kn kc, .int .i64 h.pl] 102)).alloc (.cells #[.bool false, .string ⟨#[]⟩, .int .i64 0, .int .i64 0] 109)).alloc (.cells #[.int .i64 0, .int .i64 0] 32)) = w1 at *
  have x0 : w1.cell? ⟨w.heap.size, 0, none⟩ = some (.int .i64 h.kind) := HA.out.box.cell rfl
  have x1 : w1.cell? ⟨w.heap.size, 1, none⟩ = some (.int .i64 h.num) := HA.out.box.cell rfl
  have x2 : w1.cell? ⟨w.heap.size, 2, none⟩ = some (.string (bs h.text)) := HA.out.box.cell rfl
  have x3 : w1.cell? ⟨w.heap.size, 3, none⟩ = some (.slice ka kn kc) := HA.out.box.cell rfl
  have x4 : w1.cell? ⟨w.heap.size, 4, none⟩ = some (.int .i64 h.pl) := HA.out.box.cell rfl
  have HC0 := hC w1 HA.out
  have HG1 : Hid (G O1 w1) := hG1 w1 HA.out
  have HGF : Hid (∀ O O' W W', G O W → Fr O W W' → (∀ g, O' g → O g ∨ W.heap.size ≤ g) → G O' W') := hGf
  have HQ : Hid (∀ O' s' c' m W, CkAt O' b s' c' W → CkOk c' → Sm c c' → MnOk c'.values.length m → G O' W → Calls Tryz.prog 123 #[mnV m, .pointer (some ⟨g, 0, none⟩)] W fun e w' => e = .returned (.int .i64 (q m)) ∧ Below W.heap.size W w') := hQ
  have HOK : Hid (∀ c' m, askE c (h, k) = .ok (c', m) → CkOk c' ∧ MnOk c'.values.length m ∧ Sm c c') := hokE
  clear hC hG1 hGf hQ hokE
  cases hl : askE c (h, k) with
  | error f =>
    have HL : Hid (Calls Tryz.prog 88 #[.pointer (some ⟨b, 0, none⟩), .agg #[.int .i64 h.kind, .int .i64 h.num, .string (bs h.text), .slice ka kn kc, .int .i64 h.pl]] w1 fun e w' => f.1 ≠ 0 ∧ e = .returned (.tuple #[.agg #[.bool false, .string ⟨#[]⟩, .int .i64 0, .int .i64 0], .agg #[.int .i64 f.1, .int .i64 f.2]]) ∧ Hid (CE w O O1 w')) := by
      refine (calls_err HC0 hl).mono ?_
      rintro e w' ⟨h1, h2, h3⟩
      exact ⟨h1, h2, HA.out.fr.trans h3 HA.out.new, HA.out.r1.fr h3 (fun _ h => .inl h), HA.out.r2.fr h3 (fun _ h => .inl h)⟩
    have HX : Hid (askQ q c (h, k) = .error f) := by show _ = _; simp only [askQ, hl]
    clear hl HA HC0 HG1 HGF HQ HOK
    obtain ⟨f1, f2⟩ := f
    simp only at HL
    generalize bs h.text = tx at *
    go_wp2_with fail
    refine HL.out.mono ?_
    rintro e w3 ⟨hf, rfl, HB⟩
    have HF : Hid (f1 ≠ 0) := hf
    have hq : (f1 == 0) = false := by rw [beq_eq_false_iff_ne]; exact hf
    clear hf HL x0 x1 x2 x3 x4
    have r0 : w3.cell? ⟨w.heap.size + 1, 0, none⟩ = some (.bool false) := HB.out.r1.cell rfl
    have r1 : w3.cell? ⟨w.heap.size + 1, 1, none⟩ = some (.string ⟨#[]⟩) := HB.out.r1.cell rfl
    have r2 : w3.cell? ⟨w.heap.size + 1, 2, none⟩ = some (.int .i64 0) := HB.out.r1.cell rfl
    have r3 : w3.cell? ⟨w.heap.size + 1, 3, none⟩ = some (.int .i64 0) := HB.out.r1.cell rfl
    have q0 : w3.cell? ⟨w.heap.size + 1 + 1, 0, none⟩ = some (.int .i64 0) := HB.out.r2.cell rfl
    have q1 : w3.cell? ⟨w.heap.size + 1 + 1, 1, none⟩ = some (.int .i64 0) := HB.out.r2.cell rfl
    have rf : ∀ i, w3.frozen? ⟨w.heap.size + 1, i, none⟩ = false := fun i => HB.out.r1.fz i
    have qf : ∀ i, w3.frozen? ⟨w.heap.size + 1 + 1, i, none⟩ = false := fun i => HB.out.r2.fz i
    have hl1 : w.heap.size + 1 < w3.heap.size := HB.out.r1.lt
    have hl2 : w.heap.size + 1 + 1 < w3.heap.size := HB.out.r2.lt
    have hl0 : w.heap.size < w3.heap.size := by omega
    have hn0 : ¬ w.heap.size = w3.heap.size := by omega
    have hn1 : ¬ w.heap.size + 1 = w3.heap.size := by omega
    have hn2 : ¬ w.heap.size + 1 + 1 = w3.heap.size := by omega
    have hn3 : ¬ w.heap.size + 1 = w3.heap.size + 1 := by omega
    have hn4 : ¬ w.heap.size + 1 + 1 = w3.heap.size + 1 := by omega
    go_wp2_with fail
    go_region
    go_wp2
    refine bodyPost_ret (v := .tuple #[mnV mn0, flV (f1, f2)]) ?_ rfl ?_
    · simp only [results, hres]
      go_simp
      exact ⟨rfl, rfl⟩
    · show XPost _ _ _ _ _ _ _
      rw [HX.out]
      exact ⟨HF.out, rfl, (((fr_res HB.out.fr _ _ _ _ _ _).alloc _).alloc _).drew⟩
  | ok x =>
    obtain ⟨c2, m2⟩ := x
    obtain ⟨k1, k2, k3⟩ := HOK.out c2 m2 hl
    have HL : Hid (Calls Tryz.prog 88 #[.pointer (some ⟨b, 0, none⟩), .agg #[.int .i64 h.kind, .int .i64 h.num, .string (bs h.text), .slice ka kn kc, .int .i64 h.pl]] w1 fun e w' => e = .returned (.tuple #[.agg #[.bool m2.isText, .string (bs m2.text), .int .i64 m2.place, .int .i64 m2.num], .agg #[.int .i64 0, .int .i64 0]]) ∧ Hid (∃ O' s', CA w O O' b s s' c2 h ka kn kc w' ∧ G O' w')) := by
      refine (calls_okm HC0 hl).mono ?_
      rintro e w' ⟨h1, h2, O', s', h3, h4, h5⟩
      exact ⟨h1, O', s', HA.out.go h2 h4 h3 h5 k1, HGF.out _ _ _ _ HG1.out h2 h4⟩
    have HX : Hid (askQ q c (h, k) = if q m2 = 0 then .ok (c2, m2) else .error (q m2, h.pl)) := by show _ = _; simp only [askQ, hl]
    have HQ2 : Hid (∀ O' s' W, CA w O O' b s s' c2 h ka kn kc W → G O' W → Calls Tryz.prog 123 #[mnV m2, .pointer (some ⟨g, 0, none⟩)] W fun e w' => e = .returned (.int .i64 (q m2)) ∧ Below W.heap.size W w') := fun O' s' W hW hGW => HQ.out O' s' c2 m2 W hW.ck k1 k3 k2 hGW
    clear hl HA HC0 HG1 HQ HOK k1 k2 k3
    obtain ⟨z, hz⟩ : ∃ z, z = q m2 := ⟨_, rfl⟩
    rw [← hz] at HX
    have HZ : Hid (z = q m2) := hz
    rw [← hz] at HQ2
    clear hz HZ
    unfold mnV at HQ2
    obtain ⟨mt2, mx2, mp2, mn2⟩ := m2
    simp only at HL HQ2
    obtain ⟨bx2, hbx2⟩ : ∃ bx2, bx2 = bs mx2 := ⟨_, rfl⟩
    rw [← hbx2] at HL HQ2
    have HBY : Hid (bx2 = bs mx2) := hbx2
    clear hbx2
    generalize bs h.text = tx at x2 HL ⊢
    go_wp2_with fail
    refine HL.out.mono ?_
    rintro e w3 ⟨rfl, HB0⟩
    obtain ⟨O3, s3, hB3, hG3⟩ := HB0.out
    have HB : Hid (CA w O O3 b s s3 c2 h ka kn kc w3) := hB3
    have HQ3 : Hid (∀ o o', Calls Tryz.prog 123 #[.agg #[.bool mt2, .string bx2, .int .i64 mp2, .int .i64 mn2], .pointer (some ⟨g, 0, none⟩)] ((w3.alloc o).alloc o') fun e w' => e = .returned (.int .i64 z) ∧ Below ((w3.alloc o).alloc o').heap.size ((w3.alloc o).alloc o') w') := fun o o' => by
      have hb : Below w3.heap.size w3 ((w3.alloc o).alloc o') := ((Below.refl _ _).alloc (Nat.le_refl _) o).alloc (by simp) o'
      exact HQ2.out O3 s3 _ (hB3.next hb) (HGF.out O3 O3 w3 _ hG3 (Fr.of_below hb) (fun _ h => .inl h))
    clear HL x0 x1 x2 x3 x4 HB0 hB3 hG3 HQ2 HGF
    go_wp2_with fail
    refine (HQ3.out _ _).mono ?_
    rintro e w4 ⟨rfl, hb4⟩
    have hnw := heap_alloc_new w3 (.cells #[.bool mt2, .string bx2, .int .i64 mp2, .int .i64 mn2] 109)
    have HB4 : Hid (CA w O O3 b s s3 c2 h ka kn kc w4 ∧ w4.heap[w3.heap.size]? = some (.cells #[.bool mt2, .string bx2, .int .i64 mp2, .int .i64 mn2] 109 (0, 0))) := by
      refine ⟨((HB.out.next ((Below.refl _ _).alloc (Nat.le_refl _) _)).next ((Below.refl _ _).alloc (Nat.le_refl _) _)).next hb4, ?_⟩
      rw [hb4.block _ (by simp; omega)]
      exact heap_old hnw
    have hl3 : w.heap.size + 1 + 1 < w3.heap.size := HB.out.r2.lt
    clear hb4 HB HQ3 hnw
    have y0 : w4.cell? ⟨w3.heap.size, 0, none⟩ = some (.bool mt2) := blk HB4.out.2 rfl
    have y1 : w4.cell? ⟨w3.heap.size, 1, none⟩ = some (.string bx2) := blk HB4.out.2 rfl
    have y2 : w4.cell? ⟨w3.heap.size, 2, none⟩ = some (.int .i64 mp2) := blk HB4.out.2 rfl
    have y3 : w4.cell? ⟨w3.heap.size, 3, none⟩ = some (.int .i64 mn2) := blk HB4.out.2 rfl
    have x4 : w4.cell? ⟨w.heap.size, 4, none⟩ = some (.int .i64 h.pl) := HB4.out.1.box.cell rfl
    have r0 : w4.cell? ⟨w.heap.size + 1, 0, none⟩ = some (.bool false) := HB4.out.1.r1.cell rfl
    have r1 : w4.cell? ⟨w.heap.size + 1, 1, none⟩ = some (.string ⟨#[]⟩) := HB4.out.1.r1.cell rfl
    have r2 : w4.cell? ⟨w.heap.size + 1, 2, none⟩ = some (.int .i64 0) := HB4.out.1.r1.cell rfl
    have r3 : w4.cell? ⟨w.heap.size + 1, 3, none⟩ = some (.int .i64 0) := HB4.out.1.r1.cell rfl
    have q0 : w4.cell? ⟨w.heap.size + 1 + 1, 0, none⟩ = some (.int .i64 0) := HB4.out.1.r2.cell rfl
    have q1 : w4.cell? ⟨w.heap.size + 1 + 1, 1, none⟩ = some (.int .i64 0) := HB4.out.1.r2.cell rfl
    have rf : ∀ i, w4.frozen? ⟨w.heap.size + 1, i, none⟩ = false := fun i => HB4.out.1.r1.fz i
    have qf : ∀ i, w4.frozen? ⟨w.heap.size + 1 + 1, i, none⟩ = false := fun i => HB4.out.1.r2.fz i
    by_cases hz0 : z = 0
    · subst hz0
      rw [if_pos rfl] at HX
      go_wp2
      refine bodyPost_ret (v := .tuple #[mnV ⟨mt2, mx2, mp2, mn2⟩, flV (0, 0)]) ?_ rfl ?_
      · simp only [results, hres]
        unfold mnV flV
        simp only
        rw [← HBY.out]
        go_simp
      · show XPost _ _ _ _ _ _ _
        rw [HX.out]
        have hd := HB4.out.1.done (.bool mt2) (.string bx2) (.int .i64 mp2) (.int .i64 mn2) (.int .i64 0) (.int .i64 0)
        exact ⟨rfl, hd.1, O3, s3, HB4.out.1.sv, HB4.out.1.new, hd.2⟩
    · have hq : (z == 0) = false := by rw [beq_eq_false_iff_ne]; exact hz0
      rw [if_neg hz0] at HX
      have HZ : Hid (z ≠ 0) := hz0
      clear hz0
      have hw0 : ¬ w.heap.size = w.heap.size + 1 := by omega
      have hw1 : ¬ w.heap.size = w.heap.size + 1 + 1 := by omega
      generalize hpl : h.pl = pl at *
      have HS1 : Hid (∀ (W : World) (i : Nat) (u : Value), W.cell? ⟨w.heap.size, 4, none⟩ = some (.int .i64 pl) → (W.setCell ⟨w.heap.size + 1, i, none⟩ u).cell? ⟨w.heap.size, 4, none⟩ = some (.int .i64 pl)) := fun W i u hW => by
        rw [World.cell?_of_block (w := W) (a := ⟨w.heap.size, 4, none⟩) (heap_other rfl hw0)]; exact hW
      have HS2 : Hid (∀ (W : World) (i : Nat) (u : Value), W.cell? ⟨w.heap.size, 4, none⟩ = some (.int .i64 pl) → (W.setCell ⟨w.heap.size + 1 + 1, i, none⟩ u).cell? ⟨w.heap.size, 4, none⟩ = some (.int .i64 pl)) := fun W i u hW => by
        rw [World.cell?_of_block (w := W) (a := ⟨w.heap.size, 4, none⟩) (heap_other rfl hw1)]; exact hW
      have r6d : Hid (∀ W : World, W.cell? ⟨w.heap.size, 4, none⟩ = some (.int .i64 pl) → W.drew.cell? ⟨w.heap.size, 4, none⟩ = some (.int .i64 pl)) := fun W h => h
      go_wp2_with fail
      go_region_held3 (fun W => W.cell? ⟨w.heap.size, 4, none⟩ = some (.int .i64 pl)) (((try with_reducible refine r6d.out _ ?_); repeat (first | with_reducible exact x4 | with_reducible refine HS1.out _ _ _ ?_ | with_reducible refine HS2.out _ _ _ ?_))) (fail)
      rename_i hh
      clear hh HS1 HS2 r6d
      go_wp2
      refine bodyPost_ret (v := .tuple #[mnV mn0, flV (z, pl)]) ?_ rfl ?_
      · simp only [results, hres]
        go_simp
        exact ⟨rfl, rfl⟩
      · show XPost _ _ _ _ _ _ _
        rw [HX.out]
        exact ⟨HZ.out, rfl, (fr_res HB4.out.1.fr _ _ _ _ _ _).drew⟩

end Go.Proofs.YtlaodgdlkkmmeaaGreat
namespace Go.Proofs.YtlaodgdlkkmmeaaGreat
open Go.RowKit Go.Deep Go.Maps

abbrev Lo := Nat × List Value × TypeId
/-- The checker (if what was said is known), and blocks of the call's own beside it. -/
structure LS (w : World) (O0 O : Nat → Prop) (b : Nat) (s0 s : Sl) (oc : Option Ck) (L : List Lo) (W : World) : Prop where
  ck : ∀ c, oc = some c → CkAt O b s c W ∧ CkOk c ∧ s.sv = s0.sv
  fr : Fr O0 w W
  new : ∀ g, O g → O0 g ∨ w.heap.size ≤ g
  tight : ∀ g, O g → g < W.heap.size
  loc : ∀ x ∈ L, Lc O W x.1 x.2.1 x.2.2 ∧ w.heap.size ≤ x.1
  nd : (L.map (·.1)).Nodup
section
variable {w W W' : World} {O0 O O' : Nat → Prop} {b : Nat} {s0 s s' : Sl} {oc : Option Ck} {L : List Lo}
theorem LS.next (h : LS w O0 O b s0 s oc L W) (hb : Below W.heap.size W W') : LS w O0 O b s0 s oc L W' :=
  ⟨fun c hc => ⟨(h.ck c hc).1.below hb, (h.ck c hc).2⟩, h.fr.then_below hb, h.new, fun g hg => Nat.lt_of_lt_of_le (h.tight g hg) hb.size, fun x hx => ⟨(h.loc x hx).1.next hb, (h.loc x hx).2⟩, h.nd⟩
theorem LS.drew (h : LS w O0 O b s0 s oc L W) : LS w O0 O b s0 s oc L W.drew := h.next (Below.refl _ _).drew
theorem LS.alloc (h : LS w O0 O b s0 s oc L W) (cs : List Value) (ty : TypeId) : LS w O0 O b s0 s oc ((W.heap.size, cs, ty) :: L) (W.alloc (.cells cs.toArray ty)) := by
  have hb : Below W.heap.size W (W.alloc (.cells cs.toArray ty)) := (Below.refl _ _).alloc (Nat.le_refl _) _
  have h1 := h.next hb
  refine ⟨h1.ck, h1.fr, h1.new, h1.tight, fun x hx => ?_, ?_⟩
  · rcases List.mem_cons.1 hx with rfl | hx
    · exact ⟨Lc.new (fun ho => by have := h.tight _ ho; omega), h.fr.size⟩
    · exact h1.loc x hx
  · simp only [List.map_cons, List.nodup_cons]
    refine ⟨fun hm => ?_, h.nd⟩
    obtain ⟨x, hx, e⟩ := List.mem_map.1 hm
    have := (h.loc x hx).1.lt
    omega
theorem LS.allocE (h : LS w O0 O b s0 s oc L W) (cs : List Value) (ty : TypeId) {V : World} {g : Nat} (hV : V = W.alloc (.cells cs.toArray ty)) (hg : g = W.heap.size) : LS w O0 O b s0 s oc ((g, cs, ty) :: L) V := by
  subst hV hg; exact h.alloc cs ty
/-- A call that has changed the checker's blocks alone. -/
theorem LS.go {oc' : Option Ck} (h : LS w O0 O b s0 s oc L W) (hf : Fr O W W') (hO : ∀ g, O' g → O g ∨ W.heap.size ≤ g) (hck : ∀ c, oc' = some c → CkAt O' b s' c W' ∧ CkOk c ∧ s'.sv = s0.sv) :
    LS w O0 (fun g => O' g ∧ g < W'.heap.size) b s0 s' oc' L W' := by
  have hsz := h.fr.size
  refine ⟨fun c hc => ⟨(hck c hc).1.tight, (hck c hc).2⟩, h.fr.trans hf h.new, fun g hg => ?_, fun g hg => hg.2, fun x hx => ⟨?_, (h.loc x hx).2⟩, h.nd⟩
  · rcases hO g hg.1 with h1 | h1
    · exact h.new g h1
    · exact .inr (by omega)
  · have h1 := (h.loc x hx).1.fr hf hO
    exact ⟨h1.heap, fun ho => h1.off ho.1⟩
theorem LS.sub (h : LS w O0 O b s0 s oc L W) {L' : List Lo} (hs : ∀ x ∈ L', x ∈ L) (hn : (L'.map (·.1)).Nodup) : LS w O0 O b s0 s oc L' W := ⟨h.ck, h.fr, h.new, h.tight, fun x hx => h.loc x (hs x hx), hn⟩
theorem LS.tail {x : Lo} (h : LS w O0 O b s0 s oc (x :: L) W) : LS w O0 O b s0 s oc L W := h.sub (fun y hy => by simp [hy]) (by have := h.nd; simp only [List.map_cons, List.nodup_cons] at this; exact this.2)
theorem LS.swap {x y : Lo} (h : LS w O0 O b s0 s oc (x :: y :: L) W) : LS w O0 O b s0 s oc (y :: x :: L) W := h.sub (fun z hz => by simp only [List.mem_cons] at hz ⊢; rcases hz with h1 | h1 | h1 <;> simp [h1]) (by
  have := h.nd
  simp only [List.map_cons, List.nodup_cons, List.mem_cons, not_or] at this ⊢
  exact ⟨⟨fun e => this.1.1 e.symm, this.2.1⟩, this.1.2, this.2.2⟩)
theorem LS.rot {x y z : Lo} (h : LS w O0 O b s0 s oc (x :: y :: z :: L) W) : LS w O0 O b s0 s oc (z :: x :: y :: L) W := h.sub (fun u hu => by simp only [List.mem_cons] at hu ⊢; rcases hu with h1 | h1 | h1 | h1 <;> simp [h1]) (by
  have := h.nd
  simp only [List.map_cons, List.nodup_cons, List.mem_cons, not_or] at this ⊢
  exact ⟨⟨fun e => this.1.2.1 e.symm, fun e => this.2.1.1 e.symm, this.2.2.1⟩, ⟨this.1.1, this.1.2.2⟩, this.2.1.2, this.2.2.2⟩)
/-- A store into the first of the blocks. -/
theorem LS.put {g : Nat} {cs : List Value} {ty : TypeId} (h : LS w O0 O b s0 s oc ((g, cs, ty) :: L) W) (i : Nat) (u : Value) : LS w O0 O b s0 s oc ((g, cs.set i u, ty) :: L) (W.setCell ⟨g, i, none⟩ u) := by
  have h0 := h.loc _ (List.mem_cons_self ..)
  have hnd := h.nd
  simp only [List.map_cons, List.nodup_cons] at hnd
  refine ⟨fun c hc => ⟨ck_set (h.ck c hc).1 h0.1.off i u, (h.ck c hc).2⟩, h.fr.setCell (.inr h0.2) i u, h.new, fun k hk => by have := h.tight k hk; simpa [World.setCell] using this, fun x hx => ?_, h.nd⟩
  rcases List.mem_cons.1 hx with rfl | hx
  · exact ⟨h0.1.put i u, h0.2⟩
  · exact ⟨(h.loc x (by simp [hx])).1.other (fun e => hnd.1 (by rw [← e]; exact List.mem_map_of_mem hx)) i u, (h.loc x (by simp [hx])).2⟩
theorem LS.at (h : LS w O0 O b s0 s oc L W) {g : Nat} {cs : List Value} {ty : TypeId} (hx : (g, cs, ty) ∈ L) {i : Nat} {u : Value} (hi : cs[i]? = some u) : W.cell? ⟨g, i, none⟩ = some u := (h.loc _ hx).1.cell hi
theorem LS.fz (h : LS w O0 O b s0 s oc L W) {g : Nat} {cs : List Value} {ty : TypeId} (hx : (g, cs, ty) ∈ L) (i : Nat) : W.frozen? ⟨g, i, none⟩ = false := (h.loc _ hx).1.fz i
theorem LS.lt (h : LS w O0 O b s0 s oc L W) {g : Nat} {cs : List Value} {ty : TypeId} (hx : (g, cs, ty) ∈ L) : g < W.heap.size := (h.loc _ hx).1.lt
theorem LS.blk (h : LS w O0 O b s0 s oc L W) {g : Nat} {cs : List Value} {ty : TypeId} (hx : (g, cs, ty) ∈ L) : W.heap[g]? = some (.cells cs.toArray ty (0, 0)) := (h.loc _ hx).1.heap
end
theorem LS.start {b : Nat} {s : Sl} {c : Ck} {w : World} {O : Nat → Prop} (hck : CkAt O b s c w) (hok : CkOk c) : LS w O (fun g => O g ∧ g < w.heap.size) b s s (some c) [] w :=
  ⟨fun c' hc => by cases hc; exact ⟨hck.tight, hok, rfl⟩, Fr.refl O w, fun g hg => .inl hg.1, fun g hg => hg.2, fun x hx => by simp at hx, by simp⟩
/-- What asking has told. -/
def RQ (r : Er (Ck × Mn)) (m : Mn) (f : Int × Int) (oc : Option Ck) : Prop :=
  match r with
  | .error f' => f = f' ∧ f'.1 ≠ 0 ∧ m = mn0 ∧ oc = none
  | .ok (c', m') => f = (0, 0) ∧ m = m' ∧ oc = some c'
theorem LS.asks {w W : World} {O0 O : Nat → Prop} {b : Nat} {s0 s : Sl} {c : Ck} {L : List Lo} {K : Nat} {args : Array Value} {r : Er (Ck × Mn)} (h : LS w O0 O b s0 s (some c) L W) (hC : Calls Tryz.prog K args W (XPost O b s W r)) (hok : ∀ c' m, r = .ok (c', m) → CkOk c') :
    Calls Tryz.prog K args W fun e w' => ∃ m f oc O' s', e = .returned (.tuple #[.agg #[.bool m.isText, .string (bs m.text), .int .i64 m.place, .int .i64 m.num], .agg #[.int .i64 f.1, .int .i64 f.2]]) ∧ Hid (RQ r m f oc ∧ LS w O0 O' b s0 s' oc L w') := by
  refine hC.mono ?_
  intro e w' hp
  cases r with
  | error f =>
    obtain ⟨h1, h2, h3⟩ := hp
    exact ⟨mn0, f, none, _, s, h2, ⟨rfl, h1, rfl, rfl⟩, h.go (O' := O) h3 (fun _ h => .inl h) (fun c hc => by cases hc)⟩
  | ok x =>
    obtain ⟨c', m⟩ := x
    obtain ⟨h1, h2, O', s', h3, h4, h5⟩ := hp
    exact ⟨m, (0, 0), some c', _, s', h1, ⟨rfl, rfl, rfl⟩, h.go h2 h4 (fun c1 hc => by cases hc; exact ⟨h5, hok c' m rfl, h3.trans (h.ck c rfl).2.2⟩)⟩
/-- An expression in its box. -/
theorem LS.askNum {B : Nat} {w W : World} {O0 O : Nat → Prop} {b : Nat} {s0 s : Sl} {c : Ck} {L : List Lo} (h : LS w O0 O b s0 s (some c) L W) (hd : Hd) (k : Fo) (ka : Option Addr) (kn kc : Nat) (least : Int) (g : Nat) (hg : (g, [.int .i64 least], 3) ∈ L) (hlow : ∀ g, O0 g → B ≤ g) (hB : B ≤ w.heap.size)
    (hE : ExAt false (fun g => g < B) w (hd, k) ka kn) (hr : okE hd k) :
    Calls Tryz.prog 89 #[.pointer (some ⟨b, 0, none⟩), .agg #[.int .i64 hd.kind, .int .i64 hd.num, .string (bs hd.text), .slice ka kn kc, .int .i64 hd.pl], .func (.func 126) #[] #[.pointer (some ⟨g, 0, none⟩)]] W fun e w' => ∃ m f oc O' s', e = .returned (.tuple #[.agg #[.bool m.isText, .string (bs m.text), .int .i64 m.place, .int .i64 m.num], .agg #[.int .i64 f.1, .int .i64 f.2]]) ∧ Hid (RQ (askQ (numFrom least) c (hd, k)) m f oc ∧ LS w O0 O' b s0 s' oc L w') := by
  have hE' : ExAt false (fun g => g < B) W (hd, k) ka kn := ⟨hE.hd, hE.few, foAt_keep (fun q hq hqB => h.fr.block q hq (fun ho => by have := hlow q ho; omega)) hE.kids⟩
  have hlow' : ∀ g, O g → B ≤ g := fun q hq => by rcases h.new q hq with h1 | h1; exact hlow q h1; omega
  obtain ⟨k1, k2, k3⟩ := h.ck c rfl
  refine h.asks ?_ (fun c' m hm => ?_)
  · refine asked_126 hd k ka kn kc g (numFrom least) (fun O W => Lc O W g [.int .i64 least] 3) W k1 k2 hlow' (Nat.le_trans hB h.fr.size) hE' hr (h.loc _ hg).1 (fun O O' W W' h1 h2 h3 => h1.fr h2 h3) ?_
    intro O' s' c' m W' _ _ _ _ hL
    exact numQ_calls least m g W' (hL.cell rfl)
  · unfold askQ at hm
    split at hm
    · cases hm
    · rename_i c1 m1 he
      split at hm
      · cases hm
        exact (askE_ok k2 hr hE.hd.text (foAt_short hE.kids) he).1
      · cases hm
theorem LS.askText {B : Nat} {w W : World} {O0 O : Nat → Prop} {b : Nat} {s0 s : Sl} {c : Ck} {L : List Lo} (h : LS w O0 O b s0 s (some c) L W) (hd : Hd) (k : Fo) (ka : Option Addr) (kn kc : Nat) (right : List UInt8 → Bool) (g : Nat) (G : (Nat → Prop) → World → Prop) (hlow : ∀ g, O0 g → B ≤ g) (hB : B ≤ w.heap.size)
    (hE : ExAt false (fun g => g < B) w (hd, k) ka kn) (hr : okE hd k) (hG : G O W) (hGf : ∀ O O' W W', G O W → Fr O W W' → (∀ g, O' g → O g ∨ W.heap.size ≤ g) → G O' W')
    (hQ : ∀ O' s' c' m W, CkAt O' b s' c' W → CkOk c' → Sm c c' → MnOk c'.values.length m → G O' W → Calls Tryz.prog 123 #[mnV m, .pointer (some ⟨g, 0, none⟩)] W fun e w' => e = .returned (.int .i64 (textQ right m)) ∧ Below W.heap.size W w') :
    Calls Tryz.prog 89 #[.pointer (some ⟨b, 0, none⟩), .agg #[.int .i64 hd.kind, .int .i64 hd.num, .string (bs hd.text), .slice ka kn kc, .int .i64 hd.pl], .func (.func 123) #[] #[.pointer (some ⟨g, 0, none⟩)]] W fun e w' => ∃ m f oc O' s', e = .returned (.tuple #[.agg #[.bool m.isText, .string (bs m.text), .int .i64 m.place, .int .i64 m.num], .agg #[.int .i64 f.1, .int .i64 f.2]]) ∧ Hid (RQ (askQ (textQ right) c (hd, k)) m f oc ∧ LS w O0 O' b s0 s' oc L w') := by
  have hE' : ExAt false (fun g => g < B) W (hd, k) ka kn := ⟨hE.hd, hE.few, foAt_keep (fun q hq hqB => h.fr.block q hq (fun ho => by have := hlow q ho; omega)) hE.kids⟩
  have hlow' : ∀ g, O g → B ≤ g := fun q hq => by rcases h.new q hq with h1 | h1; exact hlow q h1; omega
  obtain ⟨k1, k2, k3⟩ := h.ck c rfl
  refine h.asks ?_ (fun c' m hm => ?_)
  · exact asked_123 hd k ka kn kc g (textQ right) G W k1 k2 hlow' (Nat.le_trans hB h.fr.size) hE' hr hG hGf hQ
  · unfold askQ at hm
    split at hm
    · cases hm
    · rename_i c1 m1 he
      split at hm
      · cases hm
        exact (askE_ok k2 hr hE.hd.text (foAt_short hE.kids) he).1
      · cases hm
theorem numberFrom_calls' (least : Int) (w : World) : Calls Tryz.prog 95 #[.int .i64 least] w fun e w' => ∃ gc, e = .returned (.func (.func 126) #[] #[.pointer (some ⟨gc, 0, none⟩)]) ∧ Hid (w' = w.alloc (.cells [.int .i64 least].toArray 3) ∧ gc = w.heap.size) := by
  refine (numberFrom_calls least w).mono ?_
  rintro e w' ⟨rfl, rfl⟩
  exact ⟨w.heap.size, rfl, rfl, rfl⟩
theorem textOf_calls' (F : Nat) (caps : Array Value) (w : World) : Calls Tryz.prog 90 #[.func (.func F) #[] caps] w fun e w' => ∃ gc, e = .returned (.func (.func 123) #[] #[.pointer (some ⟨gc, 0, none⟩)]) ∧ Hid (w' = w.alloc (.cells [.func (.func F) #[] caps].toArray 41) ∧ gc = w.heap.size) := by
  refine (textOf_calls F #[] caps w).mono ?_
  rintro e w' ⟨rfl, rfl⟩
  exact ⟨w.heap.size, rfl, rfl, rfl⟩
set_option maxRecDepth 20000 in
theorem alloc109_step {o : Oper} {y : Nat → Option Bool} {a : Act} {w : World} {K : Act → World → Prop} {Q : Exit → Act → World → Prop} {d : Nat} (h1 : o.op = .alloc 109) (h2 : o.dst = some d) (h3 : o.guard = none)
    (h : ∀ V g, V = w.alloc (.cells (mnL mn0).toArray 109) → g = w.heap.size → K (a.put (some d) (.pointer (some ⟨g, 0, none⟩))) V) :
    if Region.wanted o y = true then Oper.wp Tryz.prog o a w K Q else K (a.put o.dst undef) w := by
  obtain ⟨dst, op, type, pos, after, guard⟩ := o
  simp only at h1 h2 h3
  subst h1 h2 h3
  have := h _ _ rfl rfl
  clear h
  simp only [mnL, mn0, bs] at this
  go_simp
  exact this
set_option maxRecDepth 20000 in
theorem alloc32_step {o : Oper} {y : Nat → Option Bool} {a : Act} {w : World} {K : Act → World → Prop} {Q : Exit → Act → World → Prop} {d : Nat} (h1 : o.op = .alloc 32) (h2 : o.dst = some d) (h3 : o.guard = none)
    (h : ∀ V g, V = w.alloc (.cells (flL (0, 0)).toArray 32) → g = w.heap.size → K (a.put (some d) (.pointer (some ⟨g, 0, none⟩))) V) :
    if Region.wanted o y = true then Oper.wp Tryz.prog o a w K Q else K (a.put o.dst undef) w := by
  obtain ⟨dst, op, type, pos, after, guard⟩ := o
  simp only at h1 h2 h3
  subst h1 h2 h3
  have := h _ _ rfl rfl
  clear h
  simp only [flL] at this
  go_simp
  exact this
section
variable {P : Program} {ops : Array Oper} {Q : Exit → Act → World → Prop} {md : Region.Mode} {S : World → Prop} {x : Nat → Bool}
/-- Three operations may come up. -/
theorem wpAnyY_three {i j l : Nat} {oi oj ol : Oper} {fuel : Nat} {listed : Array Bool} {a : Act} {w : World} (hi : ops[i]? = some oi) (hj : ops[j]? = some oj) (hl : ops[l]? = some ol) (hr : Region.ready md ops listed = [i, j, l])
    (h1 : ∀ K' : Act → World → Prop, Shut (∀ a w, (x i = false → S w) → wpAnyY P md ops Q S x fuel (listed.setIfInBounds i true) a w → K' a w) → if Region.wanted oi (yielded ops a.tmps) = true then Oper.wp P oi a w K' Q else K' (a.put oi.dst undef) w)
    (h2 : ∀ K' : Act → World → Prop, Shut (∀ a w, (x j = false → S w) → wpAnyY P md ops Q S x fuel (listed.setIfInBounds j true) a w → K' a w) → if Region.wanted oj (yielded ops a.tmps) = true then Oper.wp P oj a w K' Q else K' (a.put oj.dst undef) w)
    (h3 : ∀ K' : Act → World → Prop, Shut (∀ a w, (x l = false → S w) → wpAnyY P md ops Q S x fuel (listed.setIfInBounds l true) a w → K' a w) → if Region.wanted ol (yielded ops a.tmps) = true then Oper.wp P ol a w K' Q else K' (a.put ol.dst undef) w) :
    wpAnyY P md ops Q S x (fuel + 1) listed a w := by
  refine ⟨fun h0 => absurd (hr.symm.trans h0) (by simp), fun k hk => ?_⟩
  rw [hr] at hk
  simp only [List.mem_cons, List.not_mem_nil, or_false] at hk
  rcases hk with rfl | rfl | rfl
  · exact wpOp_step hi (fun K' hK => h1 K' (fun a w hS hW => hK a w ⟨hS, hW⟩))
  · exact wpOp_step hj (fun K' hK => h2 K' (fun a w hS hW => hK a w ⟨hS, hW⟩))
  · exact wpOp_step hl (fun K' hK => h3 K' (fun a w hS hW => hK a w ⟨hS, hW⟩))
end
set_option maxRecDepth 20000 in
theorem store109_step {o : Oper} {y : Nat → Option Bool} {a : Act} {w : World} {K : Act → World → Prop} {Q : Exit → Act → World → Prop} {p q g : Nat} {t : Bool} {x : ByteArray} {n1 n2 : Int} (h1 : o.op = .store 109 (.tmp p) (.tmp q)) (h2 : o.dst = none) (h3 : o.guard = none)
    (e1 : a.tmps[p]?.getD undef = .pointer (some ⟨g, 0, none⟩)) (e2 : a.tmps[q]?.getD undef = .agg #[.bool t, .string x, .int .i64 n1, .int .i64 n2]) (hc : w.heap[g]? = some (.cells (mnL mn0).toArray 109 (0, 0)))
    (h : ∀ V, V = (((w.setCell ⟨g, 0, none⟩ (.bool t)).setCell ⟨g, 1, none⟩ (.string x)).setCell ⟨g, 2, none⟩ (.int .i64 n1)).setCell ⟨g, 3, none⟩ (.int .i64 n2) → K a V) :
    if Region.wanted o y = true then Oper.wp Tryz.prog o a w K Q else K (a.put o.dst undef) w := by
  obtain ⟨dst, op, type, pos, after, guard⟩ := o
  simp only at h1 h2 h3
  subst h1 h2 h3
  have := h _ rfl
  have q0 := blk (i := 0) (u := .bool false) hc rfl
  have q1 := blk (i := 1) (u := .string ⟨#[]⟩) hc rfl
  have q2 := blk (i := 2) (u := .int .i64 0) hc rfl
  have q3 := blk (i := 3) (u := .int .i64 0) hc rfl
  have f0 := fun i => blkf i hc
  clear h hc
  go_simp
  exact this
set_option maxRecDepth 20000 in
theorem store32_step {o : Oper} {y : Nat → Option Bool} {a : Act} {w : World} {K : Act → World → Prop} {Q : Exit → Act → World → Prop} {p q g : Nat} {u v : Int} (h1 : o.op = .store 32 (.tmp p) (.tmp q)) (h2 : o.dst = none) (h3 : o.guard = none)
    (e1 : a.tmps[p]?.getD undef = .pointer (some ⟨g, 0, none⟩)) (e2 : a.tmps[q]?.getD undef = .agg #[.int .i64 u, .int .i64 v]) (hc : w.heap[g]? = some (.cells (flL (0, 0)).toArray 32 (0, 0)))
    (h : ∀ V, V = (w.setCell ⟨g, 0, none⟩ (.int .i64 u)).setCell ⟨g, 1, none⟩ (.int .i64 v) → K a V) :
    if Region.wanted o y = true then Oper.wp Tryz.prog o a w K Q else K (a.put o.dst undef) w := by
  obtain ⟨dst, op, type, pos, after, guard⟩ := o
  simp only at h1 h2 h3
  subst h1 h2 h3
  have := h _ rfl
  have q0 := blk (i := 0) (u := .int .i64 0) hc rfl
  have q1 := blk (i := 1) (u := .int .i64 0) hc rfl
  have f0 := fun i => blkf i hc
  clear h hc
  go_simp
  exact this
section
variable {w W V : World} {O0 O : Nat → Prop} {b : Nat} {s0 s : Sl} {oc : Option Ck} {L : List Lo} {g : Nat}
theorem LS.store109 (h : LS w O0 O b s0 s oc ((g, mnL mn0, 109) :: L) W) (m : Mn) {x : ByteArray} (hx : x = bs m.text) (hV : V = (((W.setCell ⟨g, 0, none⟩ (.bool m.isText)).setCell ⟨g, 1, none⟩ (.string x)).setCell ⟨g, 2, none⟩ (.int .i64 m.place)).setCell ⟨g, 3, none⟩ (.int .i64 m.num)) : LS w O0 O b s0 s oc ((g, mnL m, 109) :: L) V := by
  subst hV hx
  exact (((h.put 0 (.bool m.isText)).put 1 (.string (bs m.text))).put 2 (.int .i64 m.place)).put 3 (.int .i64 m.num)
theorem LS.store32 {f0 : Int × Int} (h : LS w O0 O b s0 s oc ((g, flL f0, 32) :: L) W) (f : Int × Int) (hV : V = (W.setCell ⟨g, 0, none⟩ (.int .i64 f.1)).setCell ⟨g, 1, none⟩ (.int .i64 f.2)) : LS w O0 O b s0 s oc ((g, flL f, 32) :: L) V := by
  subst hV
  exact (h.put 0 (.int .i64 f.1)).put 1 (.int .i64 f.2)
/-- Any of the blocks to the front. -/
theorem LS.front (h : LS w O0 O b s0 s oc L W) {x : Lo} {L1 L2 : List Lo} (hL : L = L1 ++ x :: L2) : LS w O0 O b s0 s oc (x :: (L1 ++ L2)) W := by
  subst hL
  refine h.sub (fun y hy => by simp only [List.mem_cons, List.mem_append] at hy ⊢; rcases hy with h1 | h1 | h1 <;> simp [h1]) ?_
  have := h.nd
  simp only [List.map_append, List.map_cons] at this ⊢
  exact (List.perm_middle.nodup_iff).1 this
end
/-- What an item leaves. -/
def TPost (O : Nat → Prop) (b : Nat) (w : World) (r : Er Ck) (e : Ending) (w' : World) : Prop :=
  match r with
  | .error f => f.1 ≠ 0 ∧ e = .returned (flV f) ∧ Fr O w w'
  | .ok c' => e = .returned (flV (0, 0)) ∧ Fr O w w' ∧ ∃ O' s', (∀ g, O' g → O g ∨ w.heap.size ≤ g) ∧ CkAt O' b s' c' w'
set_option maxRecDepth 20000 in
theorem call95c_step {o : Oper} {y : Nat → Option Bool} {a : Act} {w : World} {K : Act → World → Prop} {Q : Exit → Act → World → Prop} {d : Nat} {l : Int} (h1 : o.op = .call { callee := .value (.func 95), args := #[.const (.int .i64 l)], argTypes := #[3] }) (h2 : o.dst = some d) (h3 : o.guard = none)
    (h : ∀ V g, V = w.alloc (.cells [.int .i64 l].toArray 3) → g = w.heap.size → K (a.put (some d) (.func (.func 126) #[] #[.pointer (some ⟨g, 0, none⟩)])) V) :
    if Region.wanted o y = true then Oper.wp Tryz.prog o a w K Q else K (a.put o.dst undef) w := by
  obtain ⟨dst, op, type, pos, after, guard⟩ := o
  simp only at h1 h2 h3
  subst h1 h2 h3
  go_simp
  refine (numberFrom_calls l w).mono ?_
  rintro e V ⟨rfl, hV⟩
  exact h V _ hV rfl
set_option maxRecDepth 20000 in
theorem call95t_step {o : Oper} {y : Nat → Option Bool} {a : Act} {w : World} {K : Act → World → Prop} {Q : Exit → Act → World → Prop} {i : Nat} {d : Nat} {l : Int} (h1 : o.op = .call { callee := .value (.func 95), args := #[.tmp i], argTypes := #[3] }) (h2 : o.dst = some d) (h3 : o.guard = none) (e1 : a.tmps[i]?.getD undef = .int .i64 l)
    (h : ∀ V g, V = w.alloc (.cells [.int .i64 l].toArray 3) → g = w.heap.size → K (a.put (some d) (.func (.func 126) #[] #[.pointer (some ⟨g, 0, none⟩)])) V) :
    if Region.wanted o y = true then Oper.wp Tryz.prog o a w K Q else K (a.put o.dst undef) w := by
  obtain ⟨dst, op, type, pos, after, guard⟩ := o
  simp only at h1 h2 h3
  subst h1 h2 h3
  go_simp
  refine (numberFrom_calls l w).mono ?_
  rintro e V ⟨rfl, hV⟩
  exact h V _ hV rfl
set_option maxRecDepth 20000 in
theorem call90c_step {o : Oper} {y : Nat → Option Bool} {a : Act} {w : World} {K : Act → World → Prop} {Q : Exit → Act → World → Prop} {d F : Nat} (h1 : o.op = .call { callee := .value (.func 90), args := #[.func F], argTypes := #[41] }) (h2 : o.dst = some d) (h3 : o.guard = none)
    (h : ∀ V g, V = w.alloc (.cells [.func (.func F) #[] #[]].toArray 41) → g = w.heap.size → K (a.put (some d) (.func (.func 123) #[] #[.pointer (some ⟨g, 0, none⟩)])) V) :
    if Region.wanted o y = true then Oper.wp Tryz.prog o a w K Q else K (a.put o.dst undef) w := by
  obtain ⟨dst, op, type, pos, after, guard⟩ := o
  simp only at h1 h2 h3
  subst h1 h2 h3
  go_simp
  refine (textOf_calls F #[] #[] w).mono ?_
  rintro e V ⟨rfl, hV⟩
  exact h V _ hV rfl
set_option maxRecDepth 20000 in
theorem call90t_step {o : Oper} {y : Nat → Option Bool} {a : Act} {w : World} {K : Act → World → Prop} {Q : Exit → Act → World → Prop} {i : Nat} {d F : Nat} {caps : Array Value} (h1 : o.op = .call { callee := .value (.func 90), args := #[.tmp i], argTypes := #[41] }) (h2 : o.dst = some d) (h3 : o.guard = none) (e1 : a.tmps[i]?.getD undef = .func (.func F) #[] caps)
    (h : ∀ V g, V = w.alloc (.cells [.func (.func F) #[] caps].toArray 41) → g = w.heap.size → K (a.put (some d) (.func (.func 123) #[] #[.pointer (some ⟨g, 0, none⟩)])) V) :
    if Region.wanted o y = true then Oper.wp Tryz.prog o a w K Q else K (a.put o.dst undef) w := by
  obtain ⟨dst, op, type, pos, after, guard⟩ := o
  simp only at h1 h2 h3
  subst h1 h2 h3
  go_simp
  refine (textOf_calls F #[] caps w).mono ?_
  rintro e V ⟨rfl, hV⟩
  exact h V _ hV rfl
set_option maxRecDepth 20000 in
theorem call89_step {o : Oper} {y : Nat → Option Bool} {a : Act} {w : World} {K : Act → World → Prop} {Q : Exit → Act → World → Prop} {i j l d : Nat} {v1 v2 v3 : Value} (h1 : o.op = .call { callee := .value (.func 89), args := #[.tmp i, .tmp j, .tmp l], argTypes := #[63, 102, 140] }) (h2 : o.dst = some d) (h3 : o.guard = none)
    (e1 : a.tmps[i]?.getD undef = v1) (e2 : a.tmps[j]?.getD undef = v2) (e3 : a.tmps[l]?.getD undef = v3) (h : Calls Tryz.prog 89 #[v1, v2, v3] w fun e w' => ∃ u, e = .returned u ∧ K (a.put (some d) u) w') :
    if Region.wanted o y = true then Oper.wp Tryz.prog o a w K Q else K (a.put o.dst undef) w := by
  obtain ⟨dst, op, type, pos, after, guard⟩ := o
  simp only at h1 h2 h3
  subst h1 h2 h3
  subst e1 e2 e3
  go_simp
  refine h.mono ?_
  rintro e V ⟨u, rfl, hV⟩
  exact hV
theorem wpAnyY_takeD {P : Program} {ops : Array Oper} {Q : Exit → Act → World → Prop} {md : Region.Mode} {S : World → Prop} {x : Nat → Bool} {i : Nat} (d : Nat) {oi : Oper} {v : Value} {fuel : Nat} {listed : Array Bool} {a : Act} {w : World} (hi : ops[i]? = some oi) (hd : oi.dst = some d)
    (hs : Region.noSelect ops = true) (hc : closedB md ops listed = true) (hx : ∀ j, x j = true → waitsB md ops i ops.size j = true) (hf : Region.free md ops listed i = true) (hr : (Region.ready md ops listed).contains i = true)
    (hQ : ∀ c a w, Q (.panic c) (a.put (some d) v) w → Q (.panic c) a w) (hS : S w) (hy : YieldsIf P ops S oi v a)
    (h : wpAnyY P md ops Q S x fuel (listed.setIfInBounds i true) (a.put (some d) v) w) : wpAnyY P md ops Q S x (fuel + 1) listed a w := by
  rw [← hd] at hQ h
  exact wpAnyY_take hi hs hc hx hf hr hQ hS hy h
end Go.Proofs.YtlaodgdlkkmmeaaGreat
namespace Go.Proofs.YtlaodgdlkkmmeaaGreat
open Go.RowKit Go.Deep Go.Maps

theorem LS.start2 {b : Nat} {s : Sl} {c : Ck} {w : World} {O : Nat → Prop} (hck : CkAt O b s c w) (hok : CkOk c) (h : Hd) (ka : Option Addr) (kn kc : Nat) :
    LS w O (fun g => O g ∧ g < w.heap.size) b s s (some c) [(w.heap.size + 1, flL (0, 0), 32), (w.heap.size, exL h ka kn kc, 102)] ((w.alloc (.cells #[.int .i64 h.kind, .int .i64 h.num, .string (bs h.text), .slice ka kn kc, .int .i64 h.pl] 102)).alloc (.cells #[.int .i64 0, .int .i64 0] 32)) := by
  have h1 := ((LS.start hck hok).alloc (exL h ka kn kc) 102).alloc (flL (0, 0)) 32
  rw [show (w.alloc (.cells (exL h ka kn kc).toArray 102)).heap.size = w.heap.size + 1 by simp] at h1
  exact h1
/-- Where asking has told. -/
def AR (r : Er (Ck × Mn)) (w : World) (O : Nat → Prop) (b : Nat) (s : Sl) (mt : Bool) (mx : ByteArray) (mp mn f1 f2 : Int) (L : Mn → List Lo) (W : World) : Prop :=
  ∃ m oc O2 s2, (RQ r m (f1, f2) oc ∧ m.isText = mt ∧ bs m.text = mx ∧ m.place = mp ∧ m.num = mn) ∧ LS w O O2 b s s2 oc (L m) W
set_option maxRecDepth 20000 in
set_option maxHeartbeats 4000000 in
theorem single_calls {B : Nat} {O : Nat → Prop} {b : Nat} {s : Sl} {c : Ck} (h : Hd) (k : Fo) (ka : Option Addr) (kn kc pb pi : Nat) (set : Ck → Int → Ck) (w : World) (hck : CkAt O b s c w) (hok : CkOk c) (hlow : ∀ g, O g → B ≤ g) (hB : B ≤ w.heap.size)
    (hE : ExAt false (fun g => g < B) w (h, k) ka kn) (hr : okE h k)
    (hP : ∀ O' s' c' W p, CkAt O' b s' c' W → s'.sv = s.sv → Sm c c' → O' pb ∧ (∃ v, W.cell? ⟨pb, pi, none⟩ = some (.int .i64 v)) ∧ W.frozen? ⟨pb, pi, none⟩ = false ∧ CkAt O' b s' (set c' p) (W.setCell ⟨pb, pi, none⟩ (.int .i64 p))) :
    Calls Tryz.prog 57 #[.pointer (some ⟨b, 0, none⟩), exV h ka kn kc, .pointer (some ⟨pb, pi, none⟩)] w (TPost O b w (singleB set c (h, k))) := by
  have hres : Tryz.f57.results = #[.cell 6 32] := by kernel_rfl
  have hS1 := LS.start2 hck hok h ka kn kc
  have HSm : Hid (∀ c' m, askE c (h, k) = .ok (c', m) → Sm c c') := fun c' m he => (askE_ok hok hr hE.hd.text (foAt_short hE.kids) he).2.2
  obtain ⟨r, hrr⟩ : ∃ r, r = askQ (numFrom (-72057594037927936)) c (h, k) := ⟨_, rfl⟩
  have HAs : Hid (∀ O' s' L W g, LS w O O' b s s' (some c) L W → (g, [.int .i64 (-72057594037927936)], 3) ∈ L → Calls Tryz.prog 89 #[.pointer (some ⟨b, 0, none⟩), .agg #[.int .i64 h.kind, .int .i64 h.num, .string (bs h.text), .slice ka kn kc, .int .i64 h.pl], .func (.func 126) #[] #[.pointer (some ⟨g, 0, none⟩)]] W fun e w' => ∃ mt mx mp mn f1 f2, e = .returned (.tuple #[.agg #[.bool mt, .string mx, .int .i64 mp, .int .i64 mn], .agg #[.int .i64 f1, .int .i64 f2]]) ∧ Hid (∃ m oc O2 s2, (m.isText = mt ∧ bs m.text = mx ∧ m.place = mp ∧ m.num = mn) ∧ RQ r m (f1, f2) oc ∧ LS w O O2 b s s2 oc L w')) := by
    intro O' s' L W g h1 h2
    refine (h1.askNum h k ka kn kc (-72057594037927936) g h2 hlow hB hE hr).mono ?_
    rintro e w' ⟨m, f, oc, O2, s2, rfl, h3⟩
    exact ⟨_, _, _, _, _, _, rfl, m, oc, O2, s2, ⟨rfl, rfl, rfl, rfl⟩, by rw [hrr]; exact h3.out.1, h3.out.2⟩
  have HSS : Hid (∀ O' s' oc L W, LS w O O' b s s' oc L W → (w.heap.size, exL h ka kn kc, 102) ∈ L → W.cell? ⟨w.heap.size, 0, none⟩ = some (.int .i64 h.kind) ∧ W.cell? ⟨w.heap.size, 1, none⟩ = some (.int .i64 h.num) ∧ W.cell? ⟨w.heap.size, 2, none⟩ = some (.string (bs h.text)) ∧ W.cell? ⟨w.heap.size, 3, none⟩ = some (.slice ka kn kc) ∧ W.cell? ⟨w.heap.size, 4, none⟩ = some (.int .i64 h.pl)) := fun O' s' oc L W h1 h2 => ⟨h1.at h2 rfl, h1.at h2 rfl, h1.at h2 rfl, h1.at h2 rfl, h1.at h2 rfl⟩
  have HX : Hid (singleB set c (h, k) = match r with | .error f => .error f | .ok (c1, m) => .ok (set c1 m.place)) := by show _ = _; rw [hrr]; rfl
  have HRM : Hid (∀ c' m, r = .ok (c', m) → Sm c c') := by
    intro c' m he
    rw [hrr] at he
    unfold askQ at he
    split at he
    · cases he
    · rename_i c1 m1 hx
      split at he
      · cases he; exact HSm.out _ _ hx
      · cases he
  have HP : Hid (∀ O' s' c' W p, CkAt O' b s' c' W → s'.sv = s.sv → Sm c c' → O' pb ∧ (∃ v, W.cell? ⟨pb, pi, none⟩ = some (.int .i64 v)) ∧ W.frozen? ⟨pb, pi, none⟩ = false ∧ CkAt O' b s' (set c' p) (W.setCell ⟨pb, pi, none⟩ (.int .i64 p))) := hP
  generalize hO1 : (fun g => O g ∧ g < w.heap.size) = O1 at hS1
  clear hO1 hck hok hlow hB hE hr HSm hrr hP
  unfold exV
  have HS1 : Hid (LS w O O1 b s s (some c) [(w.heap.size + 1, flL (0, 0), 32), (w.heap.size, exL h ka kn kc, 102)] ((w.alloc (.cells #[.int .i64 h.kind, .int .i64 h.num, .string (bs h.text), .slice ka kn kc, .int .i64 h.pl] 102)).alloc (.cells #[.int .i64 0, .int .i64 0] 32))) := hS1
  clear hS1
  go_enter Tryz.func57, Tryz.ntmps57
  go_upto_region 1 with (fail)
  generalize ((w.alloc (.cells #[.int .i64 h.kind, .int .i64 h.num, .string (bs h.text), .slice ka kn kc, .int .i64 h.pl] 102)).alloc (.cells #[.int .i64 0, .int .i64 0] 32)) = w1 at *
  have HS0 : Hid (LS w O O1 b s s (some c) [(w.heap.size + 1, flL (0, 0), 32), (w.heap.size, exL h ka kn kc, 102)] w1.drew) := HS1.out.drew
  clear HS1
  go_cut [7, 8] (fun mv fv wc => ∃ g7 g8 mt mx mp mn f1 f2, mv = .pointer (some ⟨g7, 0, none⟩) ∧ fv = .pointer (some ⟨g8, 0, none⟩) ∧ AR r w O b s mt mx mp mn f1 f2 (fun m => [(g7, mnL m, 109), (g8, flL (f1, f2), 32), (w.heap.size + 1, flL (0, 0), 32)]) wc)
  case first =>
    refine wp_region_Y (fun j => [].contains j) (fun W => W.cell? ⟨w.heap.size, 0, none⟩ = some (.int .i64 h.kind) ∧ W.cell? ⟨w.heap.size, 1, none⟩ = some (.int .i64 h.num) ∧ W.cell? ⟨w.heap.size, 2, none⟩ = some (.string (bs h.text)) ∧ W.cell? ⟨w.heap.size, 3, none⟩ = some (.slice ka kn kc) ∧ W.cell? ⟨w.heap.size, 4, none⟩ = some (.int .i64 h.pl)) (by kernel_rfl) ?_
    refine wpAnyY_takeD (i := 0) 10 (v := .pointer (some ⟨b, 0, none⟩)) rfl rfl (by kernel_rfl) (by kernel_rfl) (late_of (by kernel_rfl)) (by kernel_rfl) (by kernel_rfl) (fun _ _ _ h => h) (HSS.out _ _ _ _ _ HS0.out (by simp)) (Or.inl ⟨by rfl, by (intro W hW; obtain ⟨_, _, _, _, _⟩ := hW; go_simp)⟩) ?_
    simp only [Act.put, List.setIfInBounds_toArray, List.set_cons_succ, List.set_cons_zero]
    refine wpAnyY_takeD (i := 1) 11 (v := .agg #[.int .i64 h.kind, .int .i64 h.num, .string (bs h.text), .slice ka kn kc, .int .i64 h.pl]) rfl rfl (by kernel_rfl) (by kernel_rfl) (late_of (by kernel_rfl)) (by kernel_rfl) (by kernel_rfl) (fun _ _ _ h => h) (HSS.out _ _ _ _ _ HS0.out (by simp)) (Or.inl ⟨by rfl, by (intro W hW; obtain ⟨_, _, _, _, _⟩ := hW; go_simp)⟩) ?_
    simp only [Act.put, List.setIfInBounds_toArray, List.set_cons_succ, List.set_cons_zero]
    refine wpAnyY_three (i := 2) (j := 7) (l := 8) rfl rfl rfl (by kernel_rfl) (fun K hK => ?_) (fun K hK => ?_) (fun K hK => ?_)
    · refine call95c_step rfl rfl rfl ?_
      intro V1 gc hV hG
      have HS2 : Hid (LS w O O1 b s s (some c) [(gc, [.int .i64 (-72057594037927936)], 3), (w.heap.size + 1, flL (0, 0), 32), (w.heap.size, exL h ka kn kc, 102)] V1) := HS0.out.allocE _ 3 hV hG
      refine hK.out _ _ (fun _ => HSS.out _ _ _ _ _ HS2.out (by simp)) ?_
      clear hK K HS0 hV hG
      simp only [Act.put, List.setIfInBounds_toArray, List.set_cons_succ, List.set_cons_zero]
      refine wpAnyY_three (i := 3) (j := 7) (l := 8) rfl rfl rfl (by kernel_rfl) (fun K hK => ?_) (fun K hK => ?_) (fun K hK => ?_)
      · refine call89_step rfl rfl rfl rfl rfl rfl ?_
        refine (HAs.out _ _ _ _ gc HS2.out (by simp)).mono ?_
        rintro e V3 ⟨mt, mx, mp, mn, f1, f2, rfl, hV⟩
        refine ⟨_, rfl, ?_⟩
        obtain ⟨m, oc, O2, s2, hm, hRQ, hLS⟩ := hV.out
        have HS4 : Hid (LS w O O2 b s s2 oc [(gc, [.int .i64 (-72057594037927936)], 3), (w.heap.size + 1, flL (0, 0), 32), (w.heap.size, exL h ka kn kc, 102)] V3) := hLS
        have HR : Hid (RQ r m (f1, f2) oc ∧ m.isText = mt ∧ bs m.text = mx ∧ m.place = mp ∧ m.num = mn) := ⟨hRQ, hm⟩
        refine hK.out _ _ (fun _ => HSS.out _ _ _ _ _ HS4.out (by simp)) ?_
        clear hK K HS2 hV hm hRQ hLS
        simp only [Act.put, List.setIfInBounds_toArray, List.set_cons_succ, List.set_cons_zero]
        refine wpAnyY_takeD (i := 4) 9 (v := .tuple #[.agg #[.bool mt, .string mx, .int .i64 mp, .int .i64 mn], .agg #[.int .i64 f1, .int .i64 f2]]) rfl rfl (by kernel_rfl) (by kernel_rfl) (late_of (by kernel_rfl)) (by kernel_rfl) (by kernel_rfl) (fun _ _ _ h => h) (HSS.out _ _ _ _ _ HS4.out (by simp)) (Or.inl ⟨by rfl, by (intro W hW; obtain ⟨_, _, _, _, _⟩ := hW; go_simp)⟩) ?_
        simp only [Act.put, List.setIfInBounds_toArray, List.set_cons_succ, List.set_cons_zero]
        refine wpAnyY_takeD (i := 5) 14 (v := .agg #[.bool mt, .string mx, .int .i64 mp, .int .i64 mn]) rfl rfl (by kernel_rfl) (by kernel_rfl) (late_of (by kernel_rfl)) (by kernel_rfl) (by kernel_rfl) (fun _ _ _ h => h) (HSS.out _ _ _ _ _ HS4.out (by simp)) (Or.inl ⟨by rfl, by (intro W hW; obtain ⟨_, _, _, _, _⟩ := hW; go_simp)⟩) ?_
        simp only [Act.put, List.setIfInBounds_toArray, List.set_cons_succ, List.set_cons_zero]
        refine wpAnyY_takeD (i := 6) 15 (v := .agg #[.int .i64 f1, .int .i64 f2]) rfl rfl (by kernel_rfl) (by kernel_rfl) (late_of (by kernel_rfl)) (by kernel_rfl) (by kernel_rfl) (fun _ _ _ h => h) (HSS.out _ _ _ _ _ HS4.out (by simp)) (Or.inl ⟨by rfl, by (intro W hW; obtain ⟨_, _, _, _, _⟩ := hW; go_simp)⟩) ?_
        simp only [Act.put, List.setIfInBounds_toArray, List.set_cons_succ, List.set_cons_zero]
        refine wpAnyY_two (i := 7) (j := 8) rfl rfl (by kernel_rfl) (fun K hK => ?_) (fun K hK => ?_)
        · refine alloc109_step rfl rfl rfl ?_
          intro V5 g7 hV hG
          have HS6 : Hid (LS w O O2 b s s2 oc [(g7, mnL mn0, 109), (gc, [.int .i64 (-72057594037927936)], 3), (w.heap.size + 1, flL (0, 0), 32), (w.heap.size, exL h ka kn kc, 102)] V5) := HS4.out.allocE (mnL mn0) 109 hV hG
          refine hK.out _ _ (fun _ => HSS.out _ _ _ _ _ HS6.out (by simp)) ?_
          clear hK K HS4 hV hG
          simp only [Act.put, List.setIfInBounds_toArray, List.set_cons_succ, List.set_cons_zero]
          refine wpAnyY_one (i := 8) rfl (by kernel_rfl) (fun K hK => ?_)
          refine alloc32_step rfl rfl rfl ?_
          intro V7 g8 hV hG
          have HS8 : Hid (LS w O O2 b s s2 oc [(g8, flL (0, 0), 32), (g7, mnL mn0, 109), (gc, [.int .i64 (-72057594037927936)], 3), (w.heap.size + 1, flL (0, 0), 32), (w.heap.size, exL h ka kn kc, 102)] V7) := HS6.out.allocE (flL (0, 0)) 32 hV hG
          refine hK.out _ _ (fun _ => HSS.out _ _ _ _ _ HS8.out (by simp)) ?_
          clear hK K HS6 hV hG
          simp only [Act.put, List.setIfInBounds_toArray, List.set_cons_succ, List.set_cons_zero]
          refine wpAnyY_one (i := 9) rfl (by kernel_rfl) (fun K hK => ?_)
          have HF11 : Hid (LS w O O2 b s s2 oc [(g7, mnL mn0, 109), (g8, flL (0, 0), 32), (gc, [.int .i64 (-72057594037927936)], 3), (w.heap.size + 1, flL (0, 0), 32), (w.heap.size, exL h ka kn kc, 102)] V7) := HS8.out.front (L1 := [(g8, flL (0, 0), 32)]) (L2 := [(gc, [.int .i64 (-72057594037927936)], 3), (w.heap.size + 1, flL (0, 0), 32), (w.heap.size, exL h ka kn kc, 102)]) rfl
          refine store109_step rfl rfl rfl rfl rfl (HF11.out.blk (List.mem_cons_self ..)) ?_
          intro V9 hV
          have HS10 : Hid (LS w O O2 b s s2 oc [(g7, mnL m, 109), (g8, flL (0, 0), 32), (gc, [.int .i64 (-72057594037927936)], 3), (w.heap.size + 1, flL (0, 0), 32), (w.heap.size, exL h ka kn kc, 102)] V9) := HF11.out.store109 m HR.out.2.2.1.symm (by rw [hV, HR.out.2.1, HR.out.2.2.2.1, HR.out.2.2.2.2])
          refine hK.out _ _ (fun _ => HSS.out _ _ _ _ _ HS10.out (by simp)) ?_
          clear hK K HS8 hV HF11
          refine wpAnyY_one (i := 10) rfl (by kernel_rfl) (fun K hK => ?_)
          have HF14 : Hid (LS w O O2 b s s2 oc [(g8, flL (0, 0), 32), (g7, mnL m, 109), (gc, [.int .i64 (-72057594037927936)], 3), (w.heap.size + 1, flL (0, 0), 32), (w.heap.size, exL h ka kn kc, 102)] V9) := HS10.out.front (L1 := [(g7, mnL m, 109)]) (L2 := [(gc, [.int .i64 (-72057594037927936)], 3), (w.heap.size + 1, flL (0, 0), 32), (w.heap.size, exL h ka kn kc, 102)]) rfl
          refine store32_step rfl rfl rfl rfl rfl (HF14.out.blk (List.mem_cons_self ..)) ?_
          intro V12 hV
          have HS13 : Hid (LS w O O2 b s s2 oc [(g8, flL (f1, f2), 32), (g7, mnL m, 109), (gc, [.int .i64 (-72057594037927936)], 3), (w.heap.size + 1, flL (0, 0), 32), (w.heap.size, exL h ka kn kc, 102)] V12) := HF14.out.store32 (f1, f2) hV
          refine hK.out _ _ (fun _ => HSS.out _ _ _ _ _ HS13.out (by simp)) ?_
          clear hK K HS10 hV HF14
          refine wpAnyY_done (by kernel_rfl) ?_ _
          go_wp2_with fail
          go_meet
          exact ⟨g7, g8, mt, mx, mp, mn, f1, f2, rfl, rfl, m, oc, O2, s2, HR.out, HS13.out.sub (by simp) (by have := HS13.out.nd; simp at this ⊢; omega)⟩
        · refine alloc32_step rfl rfl rfl ?_
          intro V15 g8 hV hG
          have HS16 : Hid (LS w O O2 b s s2 oc [(g8, flL (0, 0), 32), (gc, [.int .i64 (-72057594037927936)], 3), (w.heap.size + 1, flL (0, 0), 32), (w.heap.size, exL h ka kn kc, 102)] V15) := HS4.out.allocE (flL (0, 0)) 32 hV hG
          refine hK.out _ _ (fun _ => HSS.out _ _ _ _ _ HS16.out (by simp)) ?_
          clear hK K HS4 hV hG
          simp only [Act.put, List.setIfInBounds_toArray, List.set_cons_succ, List.set_cons_zero]
          refine wpAnyY_one (i := 7) rfl (by kernel_rfl) (fun K hK => ?_)
          refine alloc109_step rfl rfl rfl ?_
          intro V17 g7 hV hG
          have HS18 : Hid (LS w O O2 b s s2 oc [(g7, mnL mn0, 109), (g8, flL (0, 0), 32), (gc, [.int .i64 (-72057594037927936)], 3), (w.heap.size + 1, flL (0, 0), 32), (w.heap.size, exL h ka kn kc, 102)] V17) := HS16.out.allocE (mnL mn0) 109 hV hG
          refine hK.out _ _ (fun _ => HSS.out _ _ _ _ _ HS18.out (by simp)) ?_
          clear hK K HS16 hV hG
          simp only [Act.put, List.setIfInBounds_toArray, List.set_cons_succ, List.set_cons_zero]
          refine wpAnyY_one (i := 9) rfl (by kernel_rfl) (fun K hK => ?_)
          have HF21 : Hid (LS w O O2 b s s2 oc [(g7, mnL mn0, 109), (g8, flL (0, 0), 32), (gc, [.int .i64 (-72057594037927936)], 3), (w.heap.size + 1, flL (0, 0), 32), (w.heap.size, exL h ka kn kc, 102)] V17) := HS18.out.front (L1 := []) (L2 := [(g8, flL (0, 0), 32), (gc, [.int .i64 (-72057594037927936)], 3), (w.heap.size + 1, flL (0, 0), 32), (w.heap.size, exL h ka kn kc, 102)]) rfl
          refine store109_step rfl rfl rfl rfl rfl (HF21.out.blk (List.mem_cons_self ..)) ?_
          intro V19 hV
          have HS20 : Hid (LS w O O2 b s s2 oc [(g7, mnL m, 109), (g8, flL (0, 0), 32), (gc, [.int .i64 (-72057594037927936)], 3), (w.heap.size + 1, flL (0, 0), 32), (w.heap.size, exL h ka kn kc, 102)] V19) := HF21.out.store109 m HR.out.2.2.1.symm (by rw [hV, HR.out.2.1, HR.out.2.2.2.1, HR.out.2.2.2.2])
          refine hK.out _ _ (fun _ => HSS.out _ _ _ _ _ HS20.out (by simp)) ?_
          clear hK K HS18 hV HF21
          refine wpAnyY_one (i := 10) rfl (by kernel_rfl) (fun K hK => ?_)
          have HF24 : Hid (LS w O O2 b s s2 oc [(g8, flL (0, 0), 32), (g7, mnL m, 109), (gc, [.int .i64 (-72057594037927936)], 3), (w.heap.size + 1, flL (0, 0), 32), (w.heap.size, exL h ka kn kc, 102)] V19) := HS20.out.front (L1 := [(g7, mnL m, 109)]) (L2 := [(gc, [.int .i64 (-72057594037927936)], 3), (w.heap.size + 1, flL (0, 0), 32), (w.heap.size, exL h ka kn kc, 102)]) rfl
          refine store32_step rfl rfl rfl rfl rfl (HF24.out.blk (List.mem_cons_self ..)) ?_
          intro V22 hV
          have HS23 : Hid (LS w O O2 b s s2 oc [(g8, flL (f1, f2), 32), (g7, mnL m, 109), (gc, [.int .i64 (-72057594037927936)], 3), (w.heap.size + 1, flL (0, 0), 32), (w.heap.size, exL h ka kn kc, 102)] V22) := HF24.out.store32 (f1, f2) hV
          refine hK.out _ _ (fun _ => HSS.out _ _ _ _ _ HS23.out (by simp)) ?_
          clear hK K HS20 hV HF24
          refine wpAnyY_done (by kernel_rfl) ?_ _
          go_wp2_with fail
          go_meet
          exact ⟨g7, g8, mt, mx, mp, mn, f1, f2, rfl, rfl, m, oc, O2, s2, HR.out, HS23.out.sub (by simp) (by have := HS23.out.nd; simp at this ⊢; omega)⟩
      · refine alloc109_step rfl rfl rfl ?_
        intro V25 g7 hV hG
        have HS26 : Hid (LS w O O1 b s s (some c) [(g7, mnL mn0, 109), (gc, [.int .i64 (-72057594037927936)], 3), (w.heap.size + 1, flL (0, 0), 32), (w.heap.size, exL h ka kn kc, 102)] V25) := HS2.out.allocE (mnL mn0) 109 hV hG
        refine hK.out _ _ (fun _ => HSS.out _ _ _ _ _ HS26.out (by simp)) ?_
        clear hK K HS2 hV hG
        simp only [Act.put, List.setIfInBounds_toArray, List.set_cons_succ, List.set_cons_zero]
        refine wpAnyY_two (i := 3) (j := 8) rfl rfl (by kernel_rfl) (fun K hK => ?_) (fun K hK => ?_)
        · refine call89_step rfl rfl rfl rfl rfl rfl ?_
          refine (HAs.out _ _ _ _ gc HS26.out (by simp)).mono ?_
          rintro e V27 ⟨mt, mx, mp, mn, f1, f2, rfl, hV⟩
          refine ⟨_, rfl, ?_⟩
          obtain ⟨m, oc, O2, s2, hm, hRQ, hLS⟩ := hV.out
          have HS28 : Hid (LS w O O2 b s s2 oc [(g7, mnL mn0, 109), (gc, [.int .i64 (-72057594037927936)], 3), (w.heap.size + 1, flL (0, 0), 32), (w.heap.size, exL h ka kn kc, 102)] V27) := hLS
          have HR : Hid (RQ r m (f1, f2) oc ∧ m.isText = mt ∧ bs m.text = mx ∧ m.place = mp ∧ m.num = mn) := ⟨hRQ, hm⟩
          refine hK.out _ _ (fun _ => HSS.out _ _ _ _ _ HS28.out (by simp)) ?_
          clear hK K HS26 hV hm hRQ hLS
          simp only [Act.put, List.setIfInBounds_toArray, List.set_cons_succ, List.set_cons_zero]
          refine wpAnyY_takeD (i := 4) 9 (v := .tuple #[.agg #[.bool mt, .string mx, .int .i64 mp, .int .i64 mn], .agg #[.int .i64 f1, .int .i64 f2]]) rfl rfl (by kernel_rfl) (by kernel_rfl) (late_of (by kernel_rfl)) (by kernel_rfl) (by kernel_rfl) (fun _ _ _ h => h) (HSS.out _ _ _ _ _ HS28.out (by simp)) (Or.inl ⟨by rfl, by (intro W hW; obtain ⟨_, _, _, _, _⟩ := hW; go_simp)⟩) ?_
          simp only [Act.put, List.setIfInBounds_toArray, List.set_cons_succ, List.set_cons_zero]
          refine wpAnyY_takeD (i := 5) 14 (v := .agg #[.bool mt, .string mx, .int .i64 mp, .int .i64 mn]) rfl rfl (by kernel_rfl) (by kernel_rfl) (late_of (by kernel_rfl)) (by kernel_rfl) (by kernel_rfl) (fun _ _ _ h => h) (HSS.out _ _ _ _ _ HS28.out (by simp)) (Or.inl ⟨by rfl, by (intro W hW; obtain ⟨_, _, _, _, _⟩ := hW; go_simp)⟩) ?_
          simp only [Act.put, List.setIfInBounds_toArray, List.set_cons_succ, List.set_cons_zero]
          refine wpAnyY_takeD (i := 6) 15 (v := .agg #[.int .i64 f1, .int .i64 f2]) rfl rfl (by kernel_rfl) (by kernel_rfl) (late_of (by kernel_rfl)) (by kernel_rfl) (by kernel_rfl) (fun _ _ _ h => h) (HSS.out _ _ _ _ _ HS28.out (by simp)) (Or.inl ⟨by rfl, by (intro W hW; obtain ⟨_, _, _, _, _⟩ := hW; go_simp)⟩) ?_
          simp only [Act.put, List.setIfInBounds_toArray, List.set_cons_succ, List.set_cons_zero]
          refine wpAnyY_one (i := 8) rfl (by kernel_rfl) (fun K hK => ?_)
          refine alloc32_step rfl rfl rfl ?_
          intro V29 g8 hV hG
          have HS30 : Hid (LS w O O2 b s s2 oc [(g8, flL (0, 0), 32), (g7, mnL mn0, 109), (gc, [.int .i64 (-72057594037927936)], 3), (w.heap.size + 1, flL (0, 0), 32), (w.heap.size, exL h ka kn kc, 102)] V29) := HS28.out.allocE (flL (0, 0)) 32 hV hG
          refine hK.out _ _ (fun _ => HSS.out _ _ _ _ _ HS30.out (by simp)) ?_
          clear hK K HS28 hV hG
          simp only [Act.put, List.setIfInBounds_toArray, List.set_cons_succ, List.set_cons_zero]
          refine wpAnyY_one (i := 9) rfl (by kernel_rfl) (fun K hK => ?_)
          have HF33 : Hid (LS w O O2 b s s2 oc [(g7, mnL mn0, 109), (g8, flL (0, 0), 32), (gc, [.int .i64 (-72057594037927936)], 3), (w.heap.size + 1, flL (0, 0), 32), (w.heap.size, exL h ka kn kc, 102)] V29) := HS30.out.front (L1 := [(g8, flL (0, 0), 32)]) (L2 := [(gc, [.int .i64 (-72057594037927936)], 3), (w.heap.size + 1, flL (0, 0), 32), (w.heap.size, exL h ka kn kc, 102)]) rfl
          refine store109_step rfl rfl rfl rfl rfl (HF33.out.blk (List.mem_cons_self ..)) ?_
          intro V31 hV
          have HS32 : Hid (LS w O O2 b s s2 oc [(g7, mnL m, 109), (g8, flL (0, 0), 32), (gc, [.int .i64 (-72057594037927936)], 3), (w.heap.size + 1, flL (0, 0), 32), (w.heap.size, exL h ka kn kc, 102)] V31) := HF33.out.store109 m HR.out.2.2.1.symm (by rw [hV, HR.out.2.1, HR.out.2.2.2.1, HR.out.2.2.2.2])
          refine hK.out _ _ (fun _ => HSS.out _ _ _ _ _ HS32.out (by simp)) ?_
          clear hK K HS30 hV HF33
          refine wpAnyY_one (i := 10) rfl (by kernel_rfl) (fun K hK => ?_)
          have HF36 : Hid (LS w O O2 b s s2 oc [(g8, flL (0, 0), 32), (g7, mnL m, 109), (gc, [.int .i64 (-72057594037927936)], 3), (w.heap.size + 1, flL (0, 0), 32), (w.heap.size, exL h ka kn kc, 102)] V31) := HS32.out.front (L1 := [(g7, mnL m, 109)]) (L2 := [(gc, [.int .i64 (-72057594037927936)], 3), (w.heap.size + 1, flL (0, 0), 32), (w.heap.size, exL h ka kn kc, 102)]) rfl
          refine store32_step rfl rfl rfl rfl rfl (HF36.out.blk (List.mem_cons_self ..)) ?_
          intro V34 hV
          have HS35 : Hid (LS w O O2 b s s2 oc [(g8, flL (f1, f2), 32), (g7, mnL m, 109), (gc, [.int .i64 (-72057594037927936)], 3), (w.heap.size + 1, flL (0, 0), 32), (w.heap.size, exL h ka kn kc, 102)] V34) := HF36.out.store32 (f1, f2) hV
          refine hK.out _ _ (fun _ => HSS.out _ _ _ _ _ HS35.out (by simp)) ?_
          clear hK K HS32 hV HF36
          refine wpAnyY_done (by kernel_rfl) ?_ _
          go_wp2_with fail
          go_meet
          exact ⟨g7, g8, mt, mx, mp, mn, f1, f2, rfl, rfl, m, oc, O2, s2, HR.out, HS35.out.sub (by simp) (by have := HS35.out.nd; simp at this ⊢; omega)⟩
        · refine alloc32_step rfl rfl rfl ?_
          intro V37 g8 hV hG
          have HS38 : Hid (LS w O O1 b s s (some c) [(g8, flL (0, 0), 32), (g7, mnL mn0, 109), (gc, [.int .i64 (-72057594037927936)], 3), (w.heap.size + 1, flL (0, 0), 32), (w.heap.size, exL h ka kn kc, 102)] V37) := HS26.out.allocE (flL (0, 0)) 32 hV hG
          refine hK.out _ _ (fun _ => HSS.out _ _ _ _ _ HS38.out (by simp)) ?_
          clear hK K HS26 hV hG
          simp only [Act.put, List.setIfInBounds_toArray, List.set_cons_succ, List.set_cons_zero]
          refine wpAnyY_one (i := 3) rfl (by kernel_rfl) (fun K hK => ?_)
          refine call89_step rfl rfl rfl rfl rfl rfl ?_
          refine (HAs.out _ _ _ _ gc HS38.out (by simp)).mono ?_
          rintro e V39 ⟨mt, mx, mp, mn, f1, f2, rfl, hV⟩
          refine ⟨_, rfl, ?_⟩
          obtain ⟨m, oc, O2, s2, hm, hRQ, hLS⟩ := hV.out
          have HS40 : Hid (LS w O O2 b s s2 oc [(g8, flL (0, 0), 32), (g7, mnL mn0, 109), (gc, [.int .i64 (-72057594037927936)], 3), (w.heap.size + 1, flL (0, 0), 32), (w.heap.size, exL h ka kn kc, 102)] V39) := hLS
          have HR : Hid (RQ r m (f1, f2) oc ∧ m.isText = mt ∧ bs m.text = mx ∧ m.place = mp ∧ m.num = mn) := ⟨hRQ, hm⟩
          refine hK.out _ _ (fun _ => HSS.out _ _ _ _ _ HS40.out (by simp)) ?_
          clear hK K HS38 hV hm hRQ hLS
          simp only [Act.put, List.setIfInBounds_toArray, List.set_cons_succ, List.set_cons_zero]
          refine wpAnyY_takeD (i := 4) 9 (v := .tuple #[.agg #[.bool mt, .string mx, .int .i64 mp, .int .i64 mn], .agg #[.int .i64 f1, .int .i64 f2]]) rfl rfl (by kernel_rfl) (by kernel_rfl) (late_of (by kernel_rfl)) (by kernel_rfl) (by kernel_rfl) (fun _ _ _ h => h) (HSS.out _ _ _ _ _ HS40.out (by simp)) (Or.inl ⟨by rfl, by (intro W hW; obtain ⟨_, _, _, _, _⟩ := hW; go_simp)⟩) ?_
          simp only [Act.put, List.setIfInBounds_toArray, List.set_cons_succ, List.set_cons_zero]
          refine wpAnyY_takeD (i := 5) 14 (v := .agg #[.bool mt, .string mx, .int .i64 mp, .int .i64 mn]) rfl rfl (by kernel_rfl) (by kernel_rfl) (late_of (by kernel_rfl)) (by kernel_rfl) (by kernel_rfl) (fun _ _ _ h => h) (HSS.out _ _ _ _ _ HS40.out (by simp)) (Or.inl ⟨by rfl, by (intro W hW; obtain ⟨_, _, _, _, _⟩ := hW; go_simp)⟩) ?_
          simp only [Act.put, List.setIfInBounds_toArray, List.set_cons_succ, List.set_cons_zero]
          refine wpAnyY_takeD (i := 6) 15 (v := .agg #[.int .i64 f1, .int .i64 f2]) rfl rfl (by kernel_rfl) (by kernel_rfl) (late_of (by kernel_rfl)) (by kernel_rfl) (by kernel_rfl) (fun _ _ _ h => h) (HSS.out _ _ _ _ _ HS40.out (by simp)) (Or.inl ⟨by rfl, by (intro W hW; obtain ⟨_, _, _, _, _⟩ := hW; go_simp)⟩) ?_
          simp only [Act.put, List.setIfInBounds_toArray, List.set_cons_succ, List.set_cons_zero]
          refine wpAnyY_one (i := 9) rfl (by kernel_rfl) (fun K hK => ?_)
          have HF43 : Hid (LS w O O2 b s s2 oc [(g7, mnL mn0, 109), (g8, flL (0, 0), 32), (gc, [.int .i64 (-72057594037927936)], 3), (w.heap.size + 1, flL (0, 0), 32), (w.heap.size, exL h ka kn kc, 102)] V39) := HS40.out.front (L1 := [(g8, flL (0, 0), 32)]) (L2 := [(gc, [.int .i64 (-72057594037927936)], 3), (w.heap.size + 1, flL (0, 0), 32), (w.heap.size, exL h ka kn kc, 102)]) rfl
          refine store109_step rfl rfl rfl rfl rfl (HF43.out.blk (List.mem_cons_self ..)) ?_
          intro V41 hV
          have HS42 : Hid (LS w O O2 b s s2 oc [(g7, mnL m, 109), (g8, flL (0, 0), 32), (gc, [.int .i64 (-72057594037927936)], 3), (w.heap.size + 1, flL (0, 0), 32), (w.heap.size, exL h ka kn kc, 102)] V41) := HF43.out.store109 m HR.out.2.2.1.symm (by rw [hV, HR.out.2.1, HR.out.2.2.2.1, HR.out.2.2.2.2])
          refine hK.out _ _ (fun _ => HSS.out _ _ _ _ _ HS42.out (by simp)) ?_
          clear hK K HS40 hV HF43
          refine wpAnyY_one (i := 10) rfl (by kernel_rfl) (fun K hK => ?_)
          have HF46 : Hid (LS w O O2 b s s2 oc [(g8, flL (0, 0), 32), (g7, mnL m, 109), (gc, [.int .i64 (-72057594037927936)], 3), (w.heap.size + 1, flL (0, 0), 32), (w.heap.size, exL h ka kn kc, 102)] V41) := HS42.out.front (L1 := [(g7, mnL m, 109)]) (L2 := [(gc, [.int .i64 (-72057594037927936)], 3), (w.heap.size + 1, flL (0, 0), 32), (w.heap.size, exL h ka kn kc, 102)]) rfl
          refine store32_step rfl rfl rfl rfl rfl (HF46.out.blk (List.mem_cons_self ..)) ?_
          intro V44 hV
          have HS45 : Hid (LS w O O2 b s s2 oc [(g8, flL (f1, f2), 32), (g7, mnL m, 109), (gc, [.int .i64 (-72057594037927936)], 3), (w.heap.size + 1, flL (0, 0), 32), (w.heap.size, exL h ka kn kc, 102)] V44) := HF46.out.store32 (f1, f2) hV
          refine hK.out _ _ (fun _ => HSS.out _ _ _ _ _ HS45.out (by simp)) ?_
          clear hK K HS42 hV HF46
          refine wpAnyY_done (by kernel_rfl) ?_ _
          go_wp2_with fail
          go_meet
          exact ⟨g7, g8, mt, mx, mp, mn, f1, f2, rfl, rfl, m, oc, O2, s2, HR.out, HS45.out.sub (by simp) (by have := HS45.out.nd; simp at this ⊢; omega)⟩
      · refine alloc32_step rfl rfl rfl ?_
        intro V47 g8 hV hG
        have HS48 : Hid (LS w O O1 b s s (some c) [(g8, flL (0, 0), 32), (gc, [.int .i64 (-72057594037927936)], 3), (w.heap.size + 1, flL (0, 0), 32), (w.heap.size, exL h ka kn kc, 102)] V47) := HS2.out.allocE (flL (0, 0)) 32 hV hG
        refine hK.out _ _ (fun _ => HSS.out _ _ _ _ _ HS48.out (by simp)) ?_
        clear hK K HS2 hV hG
        simp only [Act.put, List.setIfInBounds_toArray, List.set_cons_succ, List.set_cons_zero]
        refine wpAnyY_two (i := 3) (j := 7) rfl rfl (by kernel_rfl) (fun K hK => ?_) (fun K hK => ?_)
        · refine call89_step rfl rfl rfl rfl rfl rfl ?_
          refine (HAs.out _ _ _ _ gc HS48.out (by simp)).mono ?_
          rintro e V49 ⟨mt, mx, mp, mn, f1, f2, rfl, hV⟩
          refine ⟨_, rfl, ?_⟩
          obtain ⟨m, oc, O2, s2, hm, hRQ, hLS⟩ := hV.out
          have HS50 : Hid (LS w O O2 b s s2 oc [(g8, flL (0, 0), 32), (gc, [.int .i64 (-72057594037927936)], 3), (w.heap.size + 1, flL (0, 0), 32), (w.heap.size, exL h ka kn kc, 102)] V49) := hLS
          have HR : Hid (RQ r m (f1, f2) oc ∧ m.isText = mt ∧ bs m.text = mx ∧ m.place = mp ∧ m.num = mn) := ⟨hRQ, hm⟩
          refine hK.out _ _ (fun _ => HSS.out _ _ _ _ _ HS50.out (by simp)) ?_
          clear hK K HS48 hV hm hRQ hLS
          simp only [Act.put, List.setIfInBounds_toArray, List.set_cons_succ, List.set_cons_zero]
          refine wpAnyY_takeD (i := 4) 9 (v := .tuple #[.agg #[.bool mt, .string mx, .int .i64 mp, .int .i64 mn], .agg #[.int .i64 f1, .int .i64 f2]]) rfl rfl (by kernel_rfl) (by kernel_rfl) (late_of (by kernel_rfl)) (by kernel_rfl) (by kernel_rfl) (fun _ _ _ h => h) (HSS.out _ _ _ _ _ HS50.out (by simp)) (Or.inl ⟨by rfl, by (intro W hW; obtain ⟨_, _, _, _, _⟩ := hW; go_simp)⟩) ?_
          simp only [Act.put, List.setIfInBounds_toArray, List.set_cons_succ, List.set_cons_zero]
          refine wpAnyY_takeD (i := 5) 14 (v := .agg #[.bool mt, .string mx, .int .i64 mp, .int .i64 mn]) rfl rfl (by kernel_rfl) (by kernel_rfl) (late_of (by kernel_rfl)) (by kernel_rfl) (by kernel_rfl) (fun _ _ _ h => h) (HSS.out _ _ _ _ _ HS50.out (by simp)) (Or.inl ⟨by rfl, by (intro W hW; obtain ⟨_, _, _, _, _⟩ := hW; go_simp)⟩) ?_
          simp only [Act.put, List.setIfInBounds_toArray, List.set_cons_succ, List.set_cons_zero]
          refine wpAnyY_takeD (i := 6) 15 (v := .agg #[.int .i64 f1, .int .i64 f2]) rfl rfl (by kernel_rfl) (by kernel_rfl) (late_of (by kernel_rfl)) (by kernel_rfl) (by kernel_rfl) (fun _ _ _ h => h) (HSS.out _ _ _ _ _ HS50.out (by simp)) (Or.inl ⟨by rfl, by (intro W hW; obtain ⟨_, _, _, _, _⟩ := hW; go_simp)⟩) ?_
          simp only [Act.put, List.setIfInBounds_toArray, List.set_cons_succ, List.set_cons_zero]
          refine wpAnyY_one (i := 7) rfl (by kernel_rfl) (fun K hK => ?_)
          refine alloc109_step rfl rfl rfl ?_
          intro V51 g7 hV hG
          have HS52 : Hid (LS w O O2 b s s2 oc [(g7, mnL mn0, 109), (g8, flL (0, 0), 32), (gc, [.int .i64 (-72057594037927936)], 3), (w.heap.size + 1, flL (0, 0), 32), (w.heap.size, exL h ka kn kc, 102)] V51) := HS50.out.allocE (mnL mn0) 109 hV hG
          refine hK.out _ _ (fun _ => HSS.out _ _ _ _ _ HS52.out (by simp)) ?_
          clear hK K HS50 hV hG
          simp only [Act.put, List.setIfInBounds_toArray, List.set_cons_succ, List.set_cons_zero]
          refine wpAnyY_one (i := 9) rfl (by kernel_rfl) (fun K hK => ?_)
          have HF55 : Hid (LS w O O2 b s s2 oc [(g7, mnL mn0, 109), (g8, flL (0, 0), 32), (gc, [.int .i64 (-72057594037927936)], 3), (w.heap.size + 1, flL (0, 0), 32), (w.heap.size, exL h ka kn kc, 102)] V51) := HS52.out.front (L1 := []) (L2 := [(g8, flL (0, 0), 32), (gc, [.int .i64 (-72057594037927936)], 3), (w.heap.size + 1, flL (0, 0), 32), (w.heap.size, exL h ka kn kc, 102)]) rfl
          refine store109_step rfl rfl rfl rfl rfl (HF55.out.blk (List.mem_cons_self ..)) ?_
          intro V53 hV
          have HS54 : Hid (LS w O O2 b s s2 oc [(g7, mnL m, 109), (g8, flL (0, 0), 32), (gc, [.int .i64 (-72057594037927936)], 3), (w.heap.size + 1, flL (0, 0), 32), (w.heap.size, exL h ka kn kc, 102)] V53) := HF55.out.store109 m HR.out.2.2.1.symm (by rw [hV, HR.out.2.1, HR.out.2.2.2.1, HR.out.2.2.2.2])
          refine hK.out _ _ (fun _ => HSS.out _ _ _ _ _ HS54.out (by simp)) ?_
          clear hK K HS52 hV HF55
          refine wpAnyY_one (i := 10) rfl (by kernel_rfl) (fun K hK => ?_)
          have HF58 : Hid (LS w O O2 b s s2 oc [(g8, flL (0, 0), 32), (g7, mnL m, 109), (gc, [.int .i64 (-72057594037927936)], 3), (w.heap.size + 1, flL (0, 0), 32), (w.heap.size, exL h ka kn kc, 102)] V53) := HS54.out.front (L1 := [(g7, mnL m, 109)]) (L2 := [(gc, [.int .i64 (-72057594037927936)], 3), (w.heap.size + 1, flL (0, 0), 32), (w.heap.size, exL h ka kn kc, 102)]) rfl
          refine store32_step rfl rfl rfl rfl rfl (HF58.out.blk (List.mem_cons_self ..)) ?_
          intro V56 hV
          have HS57 : Hid (LS w O O2 b s s2 oc [(g8, flL (f1, f2), 32), (g7, mnL m, 109), (gc, [.int .i64 (-72057594037927936)], 3), (w.heap.size + 1, flL (0, 0), 32), (w.heap.size, exL h ka kn kc, 102)] V56) := HF58.out.store32 (f1, f2) hV
          refine hK.out _ _ (fun _ => HSS.out _ _ _ _ _ HS57.out (by simp)) ?_
          clear hK K HS54 hV HF58
          refine wpAnyY_done (by kernel_rfl) ?_ _
          go_wp2_with fail
          go_meet
          exact ⟨g7, g8, mt, mx, mp, mn, f1, f2, rfl, rfl, m, oc, O2, s2, HR.out, HS57.out.sub (by simp) (by have := HS57.out.nd; simp at this ⊢; omega)⟩
        · refine alloc109_step rfl rfl rfl ?_
          intro V59 g7 hV hG
          have HS60 : Hid (LS w O O1 b s s (some c) [(g7, mnL mn0, 109), (g8, flL (0, 0), 32), (gc, [.int .i64 (-72057594037927936)], 3), (w.heap.size + 1, flL (0, 0), 32), (w.heap.size, exL h ka kn kc, 102)] V59) := HS48.out.allocE (mnL mn0) 109 hV hG
          refine hK.out _ _ (fun _ => HSS.out _ _ _ _ _ HS60.out (by simp)) ?_
          clear hK K HS48 hV hG
          simp only [Act.put, List.setIfInBounds_toArray, List.set_cons_succ, List.set_cons_zero]
          refine wpAnyY_one (i := 3) rfl (by kernel_rfl) (fun K hK => ?_)
          refine call89_step rfl rfl rfl rfl rfl rfl ?_
          refine (HAs.out _ _ _ _ gc HS60.out (by simp)).mono ?_
          rintro e V61 ⟨mt, mx, mp, mn, f1, f2, rfl, hV⟩
          refine ⟨_, rfl, ?_⟩
          obtain ⟨m, oc, O2, s2, hm, hRQ, hLS⟩ := hV.out
          have HS62 : Hid (LS w O O2 b s s2 oc [(g7, mnL mn0, 109), (g8, flL (0, 0), 32), (gc, [.int .i64 (-72057594037927936)], 3), (w.heap.size + 1, flL (0, 0), 32), (w.heap.size, exL h ka kn kc, 102)] V61) := hLS
          have HR : Hid (RQ r m (f1, f2) oc ∧ m.isText = mt ∧ bs m.text = mx ∧ m.place = mp ∧ m.num = mn) := ⟨hRQ, hm⟩
          refine hK.out _ _ (fun _ => HSS.out _ _ _ _ _ HS62.out (by simp)) ?_
          clear hK K HS60 hV hm hRQ hLS
          simp only [Act.put, List.setIfInBounds_toArray, List.set_cons_succ, List.set_cons_zero]
          refine wpAnyY_takeD (i := 4) 9 (v := .tuple #[.agg #[.bool mt, .string mx, .int .i64 mp, .int .i64 mn], .agg #[.int .i64 f1, .int .i64 f2]]) rfl rfl (by kernel_rfl) (by kernel_rfl) (late_of (by kernel_rfl)) (by kernel_rfl) (by kernel_rfl) (fun _ _ _ h => h) (HSS.out _ _ _ _ _ HS62.out (by simp)) (Or.inl ⟨by rfl, by (intro W hW; obtain ⟨_, _, _, _, _⟩ := hW; go_simp)⟩) ?_
          simp only [Act.put, List.setIfInBounds_toArray, List.set_cons_succ, List.set_cons_zero]
          refine wpAnyY_takeD (i := 5) 14 (v := .agg #[.bool mt, .string mx, .int .i64 mp, .int .i64 mn]) rfl rfl (by kernel_rfl) (by kernel_rfl) (late_of (by kernel_rfl)) (by kernel_rfl) (by kernel_rfl) (fun _ _ _ h => h) (HSS.out _ _ _ _ _ HS62.out (by simp)) (Or.inl ⟨by rfl, by (intro W hW; obtain ⟨_, _, _, _, _⟩ := hW; go_simp)⟩) ?_
          simp only [Act.put, List.setIfInBounds_toArray, List.set_cons_succ, List.set_cons_zero]
          refine wpAnyY_takeD (i := 6) 15 (v := .agg #[.int .i64 f1, .int .i64 f2]) rfl rfl (by kernel_rfl) (by kernel_rfl) (late_of (by kernel_rfl)) (by kernel_rfl) (by kernel_rfl) (fun _ _ _ h => h) (HSS.out _ _ _ _ _ HS62.out (by simp)) (Or.inl ⟨by rfl, by (intro W hW; obtain ⟨_, _, _, _, _⟩ := hW; go_simp)⟩) ?_
          simp only [Act.put, List.setIfInBounds_toArray, List.set_cons_succ, List.set_cons_zero]
          refine wpAnyY_one (i := 9) rfl (by kernel_rfl) (fun K hK => ?_)
          have HF65 : Hid (LS w O O2 b s s2 oc [(g7, mnL mn0, 109), (g8, flL (0, 0), 32), (gc, [.int .i64 (-72057594037927936)], 3), (w.heap.size + 1, flL (0, 0), 32), (w.heap.size, exL h ka kn kc, 102)] V61) := HS62.out.front (L1 := []) (L2 := [(g8, flL (0, 0), 32), (gc, [.int .i64 (-72057594037927936)], 3), (w.heap.size + 1, flL (0, 0), 32), (w.heap.size, exL h ka kn kc, 102)]) rfl
          refine store109_step rfl rfl rfl rfl rfl (HF65.out.blk (List.mem_cons_self ..)) ?_
          intro V63 hV
          have HS64 : Hid (LS w O O2 b s s2 oc [(g7, mnL m, 109), (g8, flL (0, 0), 32), (gc, [.int .i64 (-72057594037927936)], 3), (w.heap.size + 1, flL (0, 0), 32), (w.heap.size, exL h ka kn kc, 102)] V63) := HF65.out.store109 m HR.out.2.2.1.symm (by rw [hV, HR.out.2.1, HR.out.2.2.2.1, HR.out.2.2.2.2])
          refine hK.out _ _ (fun _ => HSS.out _ _ _ _ _ HS64.out (by simp)) ?_
          clear hK K HS62 hV HF65
          refine wpAnyY_one (i := 10) rfl (by kernel_rfl) (fun K hK => ?_)
          have HF68 : Hid (LS w O O2 b s s2 oc [(g8, flL (0, 0), 32), (g7, mnL m, 109), (gc, [.int .i64 (-72057594037927936)], 3), (w.heap.size + 1, flL (0, 0), 32), (w.heap.size, exL h ka kn kc, 102)] V63) := HS64.out.front (L1 := [(g7, mnL m, 109)]) (L2 := [(gc, [.int .i64 (-72057594037927936)], 3), (w.heap.size + 1, flL (0, 0), 32), (w.heap.size, exL h ka kn kc, 102)]) rfl
          refine store32_step rfl rfl rfl rfl rfl (HF68.out.blk (List.mem_cons_self ..)) ?_
          intro V66 hV
          have HS67 : Hid (LS w O O2 b s s2 oc [(g8, flL (f1, f2), 32), (g7, mnL m, 109), (gc, [.int .i64 (-72057594037927936)], 3), (w.heap.size + 1, flL (0, 0), 32), (w.heap.size, exL h ka kn kc, 102)] V66) := HF68.out.store32 (f1, f2) hV
          refine hK.out _ _ (fun _ => HSS.out _ _ _ _ _ HS67.out (by simp)) ?_
          clear hK K HS64 hV HF68
          refine wpAnyY_done (by kernel_rfl) ?_ _
          go_wp2_with fail
          go_meet
          exact ⟨g7, g8, mt, mx, mp, mn, f1, f2, rfl, rfl, m, oc, O2, s2, HR.out, HS67.out.sub (by simp) (by have := HS67.out.nd; simp at this ⊢; omega)⟩
    · refine alloc109_step rfl rfl rfl ?_
      intro V69 g7 hV hG
      have HS70 : Hid (LS w O O1 b s s (some c) [(g7, mnL mn0, 109), (w.heap.size + 1, flL (0, 0), 32), (w.heap.size, exL h ka kn kc, 102)] V69) := HS0.out.allocE (mnL mn0) 109 hV hG
      refine hK.out _ _ (fun _ => HSS.out _ _ _ _ _ HS70.out (by simp)) ?_
      clear hK K HS0 hV hG
      simp only [Act.put, List.setIfInBounds_toArray, List.set_cons_succ, List.set_cons_zero]
      refine wpAnyY_two (i := 2) (j := 8) rfl rfl (by kernel_rfl) (fun K hK => ?_) (fun K hK => ?_)
      · refine call95c_step rfl rfl rfl ?_
        intro V71 gc hV hG
        have HS72 : Hid (LS w O O1 b s s (some c) [(gc, [.int .i64 (-72057594037927936)], 3), (g7, mnL mn0, 109), (w.heap.size + 1, flL (0, 0), 32), (w.heap.size, exL h ka kn kc, 102)] V71) := HS70.out.allocE _ 3 hV hG
        refine hK.out _ _ (fun _ => HSS.out _ _ _ _ _ HS72.out (by simp)) ?_
        clear hK K HS70 hV hG
        simp only [Act.put, List.setIfInBounds_toArray, List.set_cons_succ, List.set_cons_zero]
        refine wpAnyY_two (i := 3) (j := 8) rfl rfl (by kernel_rfl) (fun K hK => ?_) (fun K hK => ?_)
        · refine call89_step rfl rfl rfl rfl rfl rfl ?_
          refine (HAs.out _ _ _ _ gc HS72.out (by simp)).mono ?_
          rintro e V73 ⟨mt, mx, mp, mn, f1, f2, rfl, hV⟩
          refine ⟨_, rfl, ?_⟩
          obtain ⟨m, oc, O2, s2, hm, hRQ, hLS⟩ := hV.out
          have HS74 : Hid (LS w O O2 b s s2 oc [(gc, [.int .i64 (-72057594037927936)], 3), (g7, mnL mn0, 109), (w.heap.size + 1, flL (0, 0), 32), (w.heap.size, exL h ka kn kc, 102)] V73) := hLS
          have HR : Hid (RQ r m (f1, f2) oc ∧ m.isText = mt ∧ bs m.text = mx ∧ m.place = mp ∧ m.num = mn) := ⟨hRQ, hm⟩
          refine hK.out _ _ (fun _ => HSS.out _ _ _ _ _ HS74.out (by simp)) ?_
          clear hK K HS72 hV hm hRQ hLS
          simp only [Act.put, List.setIfInBounds_toArray, List.set_cons_succ, List.set_cons_zero]
          refine wpAnyY_takeD (i := 4) 9 (v := .tuple #[.agg #[.bool mt, .string mx, .int .i64 mp, .int .i64 mn], .agg #[.int .i64 f1, .int .i64 f2]]) rfl rfl (by kernel_rfl) (by kernel_rfl) (late_of (by kernel_rfl)) (by kernel_rfl) (by kernel_rfl) (fun _ _ _ h => h) (HSS.out _ _ _ _ _ HS74.out (by simp)) (Or.inl ⟨by rfl, by (intro W hW; obtain ⟨_, _, _, _, _⟩ := hW; go_simp)⟩) ?_
          simp only [Act.put, List.setIfInBounds_toArray, List.set_cons_succ, List.set_cons_zero]
          refine wpAnyY_takeD (i := 5) 14 (v := .agg #[.bool mt, .string mx, .int .i64 mp, .int .i64 mn]) rfl rfl (by kernel_rfl) (by kernel_rfl) (late_of (by kernel_rfl)) (by kernel_rfl) (by kernel_rfl) (fun _ _ _ h => h) (HSS.out _ _ _ _ _ HS74.out (by simp)) (Or.inl ⟨by rfl, by (intro W hW; obtain ⟨_, _, _, _, _⟩ := hW; go_simp)⟩) ?_
          simp only [Act.put, List.setIfInBounds_toArray, List.set_cons_succ, List.set_cons_zero]
          refine wpAnyY_takeD (i := 6) 15 (v := .agg #[.int .i64 f1, .int .i64 f2]) rfl rfl (by kernel_rfl) (by kernel_rfl) (late_of (by kernel_rfl)) (by kernel_rfl) (by kernel_rfl) (fun _ _ _ h => h) (HSS.out _ _ _ _ _ HS74.out (by simp)) (Or.inl ⟨by rfl, by (intro W hW; obtain ⟨_, _, _, _, _⟩ := hW; go_simp)⟩) ?_
          simp only [Act.put, List.setIfInBounds_toArray, List.set_cons_succ, List.set_cons_zero]
          refine wpAnyY_one (i := 8) rfl (by kernel_rfl) (fun K hK => ?_)
          refine alloc32_step rfl rfl rfl ?_
          intro V75 g8 hV hG
          have HS76 : Hid (LS w O O2 b s s2 oc [(g8, flL (0, 0), 32), (gc, [.int .i64 (-72057594037927936)], 3), (g7, mnL mn0, 109), (w.heap.size + 1, flL (0, 0), 32), (w.heap.size, exL h ka kn kc, 102)] V75) := HS74.out.allocE (flL (0, 0)) 32 hV hG
          refine hK.out _ _ (fun _ => HSS.out _ _ _ _ _ HS76.out (by simp)) ?_
          clear hK K HS74 hV hG
          simp only [Act.put, List.setIfInBounds_toArray, List.set_cons_succ, List.set_cons_zero]
          refine wpAnyY_one (i := 9) rfl (by kernel_rfl) (fun K hK => ?_)
          have HF79 : Hid (LS w O O2 b s s2 oc [(g7, mnL mn0, 109), (g8, flL (0, 0), 32), (gc, [.int .i64 (-72057594037927936)], 3), (w.heap.size + 1, flL (0, 0), 32), (w.heap.size, exL h ka kn kc, 102)] V75) := HS76.out.front (L1 := [(g8, flL (0, 0), 32), (gc, [.int .i64 (-72057594037927936)], 3)]) (L2 := [(w.heap.size + 1, flL (0, 0), 32), (w.heap.size, exL h ka kn kc, 102)]) rfl
          refine store109_step rfl rfl rfl rfl rfl (HF79.out.blk (List.mem_cons_self ..)) ?_
          intro V77 hV
          have HS78 : Hid (LS w O O2 b s s2 oc [(g7, mnL m, 109), (g8, flL (0, 0), 32), (gc, [.int .i64 (-72057594037927936)], 3), (w.heap.size + 1, flL (0, 0), 32), (w.heap.size, exL h ka kn kc, 102)] V77) := HF79.out.store109 m HR.out.2.2.1.symm (by rw [hV, HR.out.2.1, HR.out.2.2.2.1, HR.out.2.2.2.2])
          refine hK.out _ _ (fun _ => HSS.out _ _ _ _ _ HS78.out (by simp)) ?_
          clear hK K HS76 hV HF79
          refine wpAnyY_one (i := 10) rfl (by kernel_rfl) (fun K hK => ?_)
          have HF82 : Hid (LS w O O2 b s s2 oc [(g8, flL (0, 0), 32), (g7, mnL m, 109), (gc, [.int .i64 (-72057594037927936)], 3), (w.heap.size + 1, flL (0, 0), 32), (w.heap.size, exL h ka kn kc, 102)] V77) := HS78.out.front (L1 := [(g7, mnL m, 109)]) (L2 := [(gc, [.int .i64 (-72057594037927936)], 3), (w.heap.size + 1, flL (0, 0), 32), (w.heap.size, exL h ka kn kc, 102)]) rfl
          refine store32_step rfl rfl rfl rfl rfl (HF82.out.blk (List.mem_cons_self ..)) ?_
          intro V80 hV
          have HS81 : Hid (LS w O O2 b s s2 oc [(g8, flL (f1, f2), 32), (g7, mnL m, 109), (gc, [.int .i64 (-72057594037927936)], 3), (w.heap.size + 1, flL (0, 0), 32), (w.heap.size, exL h ka kn kc, 102)] V80) := HF82.out.store32 (f1, f2) hV
          refine hK.out _ _ (fun _ => HSS.out _ _ _ _ _ HS81.out (by simp)) ?_
          clear hK K HS78 hV HF82
          refine wpAnyY_done (by kernel_rfl) ?_ _
          go_wp2_with fail
          go_meet
          exact ⟨g7, g8, mt, mx, mp, mn, f1, f2, rfl, rfl, m, oc, O2, s2, HR.out, HS81.out.sub (by simp) (by have := HS81.out.nd; simp at this ⊢; omega)⟩
        · refine alloc32_step rfl rfl rfl ?_
          intro V83 g8 hV hG
          have HS84 : Hid (LS w O O1 b s s (some c) [(g8, flL (0, 0), 32), (gc, [.int .i64 (-72057594037927936)], 3), (g7, mnL mn0, 109), (w.heap.size + 1, flL (0, 0), 32), (w.heap.size, exL h ka kn kc, 102)] V83) := HS72.out.allocE (flL (0, 0)) 32 hV hG
          refine hK.out _ _ (fun _ => HSS.out _ _ _ _ _ HS84.out (by simp)) ?_
          clear hK K HS72 hV hG
          simp only [Act.put, List.setIfInBounds_toArray, List.set_cons_succ, List.set_cons_zero]
          refine wpAnyY_one (i := 3) rfl (by kernel_rfl) (fun K hK => ?_)
          refine call89_step rfl rfl rfl rfl rfl rfl ?_
          refine (HAs.out _ _ _ _ gc HS84.out (by simp)).mono ?_
          rintro e V85 ⟨mt, mx, mp, mn, f1, f2, rfl, hV⟩
          refine ⟨_, rfl, ?_⟩
          obtain ⟨m, oc, O2, s2, hm, hRQ, hLS⟩ := hV.out
          have HS86 : Hid (LS w O O2 b s s2 oc [(g8, flL (0, 0), 32), (gc, [.int .i64 (-72057594037927936)], 3), (g7, mnL mn0, 109), (w.heap.size + 1, flL (0, 0), 32), (w.heap.size, exL h ka kn kc, 102)] V85) := hLS
          have HR : Hid (RQ r m (f1, f2) oc ∧ m.isText = mt ∧ bs m.text = mx ∧ m.place = mp ∧ m.num = mn) := ⟨hRQ, hm⟩
          refine hK.out _ _ (fun _ => HSS.out _ _ _ _ _ HS86.out (by simp)) ?_
          clear hK K HS84 hV hm hRQ hLS
          simp only [Act.put, List.setIfInBounds_toArray, List.set_cons_succ, List.set_cons_zero]
          refine wpAnyY_takeD (i := 4) 9 (v := .tuple #[.agg #[.bool mt, .string mx, .int .i64 mp, .int .i64 mn], .agg #[.int .i64 f1, .int .i64 f2]]) rfl rfl (by kernel_rfl) (by kernel_rfl) (late_of (by kernel_rfl)) (by kernel_rfl) (by kernel_rfl) (fun _ _ _ h => h) (HSS.out _ _ _ _ _ HS86.out (by simp)) (Or.inl ⟨by rfl, by (intro W hW; obtain ⟨_, _, _, _, _⟩ := hW; go_simp)⟩) ?_
          simp only [Act.put, List.setIfInBounds_toArray, List.set_cons_succ, List.set_cons_zero]
          refine wpAnyY_takeD (i := 5) 14 (v := .agg #[.bool mt, .string mx, .int .i64 mp, .int .i64 mn]) rfl rfl (by kernel_rfl) (by kernel_rfl) (late_of (by kernel_rfl)) (by kernel_rfl) (by kernel_rfl) (fun _ _ _ h => h) (HSS.out _ _ _ _ _ HS86.out (by simp)) (Or.inl ⟨by rfl, by (intro W hW; obtain ⟨_, _, _, _, _⟩ := hW; go_simp)⟩) ?_
          simp only [Act.put, List.setIfInBounds_toArray, List.set_cons_succ, List.set_cons_zero]
          refine wpAnyY_takeD (i := 6) 15 (v := .agg #[.int .i64 f1, .int .i64 f2]) rfl rfl (by kernel_rfl) (by kernel_rfl) (late_of (by kernel_rfl)) (by kernel_rfl) (by kernel_rfl) (fun _ _ _ h => h) (HSS.out _ _ _ _ _ HS86.out (by simp)) (Or.inl ⟨by rfl, by (intro W hW; obtain ⟨_, _, _, _, _⟩ := hW; go_simp)⟩) ?_
          simp only [Act.put, List.setIfInBounds_toArray, List.set_cons_succ, List.set_cons_zero]
          refine wpAnyY_one (i := 9) rfl (by kernel_rfl) (fun K hK => ?_)
          have HF89 : Hid (LS w O O2 b s s2 oc [(g7, mnL mn0, 109), (g8, flL (0, 0), 32), (gc, [.int .i64 (-72057594037927936)], 3), (w.heap.size + 1, flL (0, 0), 32), (w.heap.size, exL h ka kn kc, 102)] V85) := HS86.out.front (L1 := [(g8, flL (0, 0), 32), (gc, [.int .i64 (-72057594037927936)], 3)]) (L2 := [(w.heap.size + 1, flL (0, 0), 32), (w.heap.size, exL h ka kn kc, 102)]) rfl
          refine store109_step rfl rfl rfl rfl rfl (HF89.out.blk (List.mem_cons_self ..)) ?_
          intro V87 hV
          have HS88 : Hid (LS w O O2 b s s2 oc [(g7, mnL m, 109), (g8, flL (0, 0), 32), (gc, [.int .i64 (-72057594037927936)], 3), (w.heap.size + 1, flL (0, 0), 32), (w.heap.size, exL h ka kn kc, 102)] V87) := HF89.out.store109 m HR.out.2.2.1.symm (by rw [hV, HR.out.2.1, HR.out.2.2.2.1, HR.out.2.2.2.2])
          refine hK.out _ _ (fun _ => HSS.out _ _ _ _ _ HS88.out (by simp)) ?_
          clear hK K HS86 hV HF89
          refine wpAnyY_one (i := 10) rfl (by kernel_rfl) (fun K hK => ?_)
          have HF92 : Hid (LS w O O2 b s s2 oc [(g8, flL (0, 0), 32), (g7, mnL m, 109), (gc, [.int .i64 (-72057594037927936)], 3), (w.heap.size + 1, flL (0, 0), 32), (w.heap.size, exL h ka kn kc, 102)] V87) := HS88.out.front (L1 := [(g7, mnL m, 109)]) (L2 := [(gc, [.int .i64 (-72057594037927936)], 3), (w.heap.size + 1, flL (0, 0), 32), (w.heap.size, exL h ka kn kc, 102)]) rfl
          refine store32_step rfl rfl rfl rfl rfl (HF92.out.blk (List.mem_cons_self ..)) ?_
          intro V90 hV
          have HS91 : Hid (LS w O O2 b s s2 oc [(g8, flL (f1, f2), 32), (g7, mnL m, 109), (gc, [.int .i64 (-72057594037927936)], 3), (w.heap.size + 1, flL (0, 0), 32), (w.heap.size, exL h ka kn kc, 102)] V90) := HF92.out.store32 (f1, f2) hV
          refine hK.out _ _ (fun _ => HSS.out _ _ _ _ _ HS91.out (by simp)) ?_
          clear hK K HS88 hV HF92
          refine wpAnyY_done (by kernel_rfl) ?_ _
          go_wp2_with fail
          go_meet
          exact ⟨g7, g8, mt, mx, mp, mn, f1, f2, rfl, rfl, m, oc, O2, s2, HR.out, HS91.out.sub (by simp) (by have := HS91.out.nd; simp at this ⊢; omega)⟩
      · refine alloc32_step rfl rfl rfl ?_
        intro V93 g8 hV hG
        have HS94 : Hid (LS w O O1 b s s (some c) [(g8, flL (0, 0), 32), (g7, mnL mn0, 109), (w.heap.size + 1, flL (0, 0), 32), (w.heap.size, exL h ka kn kc, 102)] V93) := HS70.out.allocE (flL (0, 0)) 32 hV hG
        refine hK.out _ _ (fun _ => HSS.out _ _ _ _ _ HS94.out (by simp)) ?_
        clear hK K HS70 hV hG
        simp only [Act.put, List.setIfInBounds_toArray, List.set_cons_succ, List.set_cons_zero]
        refine wpAnyY_one (i := 2) rfl (by kernel_rfl) (fun K hK => ?_)
        refine call95c_step rfl rfl rfl ?_
        intro V95 gc hV hG
        have HS96 : Hid (LS w O O1 b s s (some c) [(gc, [.int .i64 (-72057594037927936)], 3), (g8, flL (0, 0), 32), (g7, mnL mn0, 109), (w.heap.size + 1, flL (0, 0), 32), (w.heap.size, exL h ka kn kc, 102)] V95) := HS94.out.allocE _ 3 hV hG
        refine hK.out _ _ (fun _ => HSS.out _ _ _ _ _ HS96.out (by simp)) ?_
        clear hK K HS94 hV hG
        simp only [Act.put, List.setIfInBounds_toArray, List.set_cons_succ, List.set_cons_zero]
        refine wpAnyY_one (i := 3) rfl (by kernel_rfl) (fun K hK => ?_)
        refine call89_step rfl rfl rfl rfl rfl rfl ?_
        refine (HAs.out _ _ _ _ gc HS96.out (by simp)).mono ?_
        rintro e V97 ⟨mt, mx, mp, mn, f1, f2, rfl, hV⟩
        refine ⟨_, rfl, ?_⟩
        obtain ⟨m, oc, O2, s2, hm, hRQ, hLS⟩ := hV.out
        have HS98 : Hid (LS w O O2 b s s2 oc [(gc, [.int .i64 (-72057594037927936)], 3), (g8, flL (0, 0), 32), (g7, mnL mn0, 109), (w.heap.size + 1, flL (0, 0), 32), (w.heap.size, exL h ka kn kc, 102)] V97) := hLS
        have HR : Hid (RQ r m (f1, f2) oc ∧ m.isText = mt ∧ bs m.text = mx ∧ m.place = mp ∧ m.num = mn) := ⟨hRQ, hm⟩
        refine hK.out _ _ (fun _ => HSS.out _ _ _ _ _ HS98.out (by simp)) ?_
        clear hK K HS96 hV hm hRQ hLS
        simp only [Act.put, List.setIfInBounds_toArray, List.set_cons_succ, List.set_cons_zero]
        refine wpAnyY_takeD (i := 4) 9 (v := .tuple #[.agg #[.bool mt, .string mx, .int .i64 mp, .int .i64 mn], .agg #[.int .i64 f1, .int .i64 f2]]) rfl rfl (by kernel_rfl) (by kernel_rfl) (late_of (by kernel_rfl)) (by kernel_rfl) (by kernel_rfl) (fun _ _ _ h => h) (HSS.out _ _ _ _ _ HS98.out (by simp)) (Or.inl ⟨by rfl, by (intro W hW; obtain ⟨_, _, _, _, _⟩ := hW; go_simp)⟩) ?_
        simp only [Act.put, List.setIfInBounds_toArray, List.set_cons_succ, List.set_cons_zero]
        refine wpAnyY_takeD (i := 5) 14 (v := .agg #[.bool mt, .string mx, .int .i64 mp, .int .i64 mn]) rfl rfl (by kernel_rfl) (by kernel_rfl) (late_of (by kernel_rfl)) (by kernel_rfl) (by kernel_rfl) (fun _ _ _ h => h) (HSS.out _ _ _ _ _ HS98.out (by simp)) (Or.inl ⟨by rfl, by (intro W hW; obtain ⟨_, _, _, _, _⟩ := hW; go_simp)⟩) ?_
        simp only [Act.put, List.setIfInBounds_toArray, List.set_cons_succ, List.set_cons_zero]
        refine wpAnyY_takeD (i := 6) 15 (v := .agg #[.int .i64 f1, .int .i64 f2]) rfl rfl (by kernel_rfl) (by kernel_rfl) (late_of (by kernel_rfl)) (by kernel_rfl) (by kernel_rfl) (fun _ _ _ h => h) (HSS.out _ _ _ _ _ HS98.out (by simp)) (Or.inl ⟨by rfl, by (intro W hW; obtain ⟨_, _, _, _, _⟩ := hW; go_simp)⟩) ?_
        simp only [Act.put, List.setIfInBounds_toArray, List.set_cons_succ, List.set_cons_zero]
        refine wpAnyY_one (i := 9) rfl (by kernel_rfl) (fun K hK => ?_)
        have HF101 : Hid (LS w O O2 b s s2 oc [(g7, mnL mn0, 109), (gc, [.int .i64 (-72057594037927936)], 3), (g8, flL (0, 0), 32), (w.heap.size + 1, flL (0, 0), 32), (w.heap.size, exL h ka kn kc, 102)] V97) := HS98.out.front (L1 := [(gc, [.int .i64 (-72057594037927936)], 3), (g8, flL (0, 0), 32)]) (L2 := [(w.heap.size + 1, flL (0, 0), 32), (w.heap.size, exL h ka kn kc, 102)]) rfl
        refine store109_step rfl rfl rfl rfl rfl (HF101.out.blk (List.mem_cons_self ..)) ?_
        intro V99 hV
        have HS100 : Hid (LS w O O2 b s s2 oc [(g7, mnL m, 109), (gc, [.int .i64 (-72057594037927936)], 3), (g8, flL (0, 0), 32), (w.heap.size + 1, flL (0, 0), 32), (w.heap.size, exL h ka kn kc, 102)] V99) := HF101.out.store109 m HR.out.2.2.1.symm (by rw [hV, HR.out.2.1, HR.out.2.2.2.1, HR.out.2.2.2.2])
        refine hK.out _ _ (fun _ => HSS.out _ _ _ _ _ HS100.out (by simp)) ?_
        clear hK K HS98 hV HF101
        refine wpAnyY_one (i := 10) rfl (by kernel_rfl) (fun K hK => ?_)
        have HF104 : Hid (LS w O O2 b s s2 oc [(g8, flL (0, 0), 32), (g7, mnL m, 109), (gc, [.int .i64 (-72057594037927936)], 3), (w.heap.size + 1, flL (0, 0), 32), (w.heap.size, exL h ka kn kc, 102)] V99) := HS100.out.front (L1 := [(g7, mnL m, 109), (gc, [.int .i64 (-72057594037927936)], 3)]) (L2 := [(w.heap.size + 1, flL (0, 0), 32), (w.heap.size, exL h ka kn kc, 102)]) rfl
        refine store32_step rfl rfl rfl rfl rfl (HF104.out.blk (List.mem_cons_self ..)) ?_
        intro V102 hV
        have HS103 : Hid (LS w O O2 b s s2 oc [(g8, flL (f1, f2), 32), (g7, mnL m, 109), (gc, [.int .i64 (-72057594037927936)], 3), (w.heap.size + 1, flL (0, 0), 32), (w.heap.size, exL h ka kn kc, 102)] V102) := HF104.out.store32 (f1, f2) hV
        refine hK.out _ _ (fun _ => HSS.out _ _ _ _ _ HS103.out (by simp)) ?_
        clear hK K HS100 hV HF104
        refine wpAnyY_done (by kernel_rfl) ?_ _
        go_wp2_with fail
        go_meet
        exact ⟨g7, g8, mt, mx, mp, mn, f1, f2, rfl, rfl, m, oc, O2, s2, HR.out, HS103.out.sub (by simp) (by have := HS103.out.nd; simp at this ⊢; omega)⟩
    · refine alloc32_step rfl rfl rfl ?_
      intro V105 g8 hV hG
      have HS106 : Hid (LS w O O1 b s s (some c) [(g8, flL (0, 0), 32), (w.heap.size + 1, flL (0, 0), 32), (w.heap.size, exL h ka kn kc, 102)] V105) := HS0.out.allocE (flL (0, 0)) 32 hV hG
      refine hK.out _ _ (fun _ => HSS.out _ _ _ _ _ HS106.out (by simp)) ?_
      clear hK K HS0 hV hG
      simp only [Act.put, List.setIfInBounds_toArray, List.set_cons_succ, List.set_cons_zero]
      refine wpAnyY_two (i := 2) (j := 7) rfl rfl (by kernel_rfl) (fun K hK => ?_) (fun K hK => ?_)
      · refine call95c_step rfl rfl rfl ?_
        intro V107 gc hV hG
        have HS108 : Hid (LS w O O1 b s s (some c) [(gc, [.int .i64 (-72057594037927936)], 3), (g8, flL (0, 0), 32), (w.heap.size + 1, flL (0, 0), 32), (w.heap.size, exL h ka kn kc, 102)] V107) := HS106.out.allocE _ 3 hV hG
        refine hK.out _ _ (fun _ => HSS.out _ _ _ _ _ HS108.out (by simp)) ?_
        clear hK K HS106 hV hG
        simp only [Act.put, List.setIfInBounds_toArray, List.set_cons_succ, List.set_cons_zero]
        refine wpAnyY_two (i := 3) (j := 7) rfl rfl (by kernel_rfl) (fun K hK => ?_) (fun K hK => ?_)
        · refine call89_step rfl rfl rfl rfl rfl rfl ?_
          refine (HAs.out _ _ _ _ gc HS108.out (by simp)).mono ?_
          rintro e V109 ⟨mt, mx, mp, mn, f1, f2, rfl, hV⟩
          refine ⟨_, rfl, ?_⟩
          obtain ⟨m, oc, O2, s2, hm, hRQ, hLS⟩ := hV.out
          have HS110 : Hid (LS w O O2 b s s2 oc [(gc, [.int .i64 (-72057594037927936)], 3), (g8, flL (0, 0), 32), (w.heap.size + 1, flL (0, 0), 32), (w.heap.size, exL h ka kn kc, 102)] V109) := hLS
          have HR : Hid (RQ r m (f1, f2) oc ∧ m.isText = mt ∧ bs m.text = mx ∧ m.place = mp ∧ m.num = mn) := ⟨hRQ, hm⟩
          refine hK.out _ _ (fun _ => HSS.out _ _ _ _ _ HS110.out (by simp)) ?_
          clear hK K HS108 hV hm hRQ hLS
          simp only [Act.put, List.setIfInBounds_toArray, List.set_cons_succ, List.set_cons_zero]
          refine wpAnyY_takeD (i := 4) 9 (v := .tuple #[.agg #[.bool mt, .string mx, .int .i64 mp, .int .i64 mn], .agg #[.int .i64 f1, .int .i64 f2]]) rfl rfl (by kernel_rfl) (by kernel_rfl) (late_of (by kernel_rfl)) (by kernel_rfl) (by kernel_rfl) (fun _ _ _ h => h) (HSS.out _ _ _ _ _ HS110.out (by simp)) (Or.inl ⟨by rfl, by (intro W hW; obtain ⟨_, _, _, _, _⟩ := hW; go_simp)⟩) ?_
          simp only [Act.put, List.setIfInBounds_toArray, List.set_cons_succ, List.set_cons_zero]
          refine wpAnyY_takeD (i := 5) 14 (v := .agg #[.bool mt, .string mx, .int .i64 mp, .int .i64 mn]) rfl rfl (by kernel_rfl) (by kernel_rfl) (late_of (by kernel_rfl)) (by kernel_rfl) (by kernel_rfl) (fun _ _ _ h => h) (HSS.out _ _ _ _ _ HS110.out (by simp)) (Or.inl ⟨by rfl, by (intro W hW; obtain ⟨_, _, _, _, _⟩ := hW; go_simp)⟩) ?_
          simp only [Act.put, List.setIfInBounds_toArray, List.set_cons_succ, List.set_cons_zero]
          refine wpAnyY_takeD (i := 6) 15 (v := .agg #[.int .i64 f1, .int .i64 f2]) rfl rfl (by kernel_rfl) (by kernel_rfl) (late_of (by kernel_rfl)) (by kernel_rfl) (by kernel_rfl) (fun _ _ _ h => h) (HSS.out _ _ _ _ _ HS110.out (by simp)) (Or.inl ⟨by rfl, by (intro W hW; obtain ⟨_, _, _, _, _⟩ := hW; go_simp)⟩) ?_
          simp only [Act.put, List.setIfInBounds_toArray, List.set_cons_succ, List.set_cons_zero]
          refine wpAnyY_one (i := 7) rfl (by kernel_rfl) (fun K hK => ?_)
          refine alloc109_step rfl rfl rfl ?_
          intro V111 g7 hV hG
          have HS112 : Hid (LS w O O2 b s s2 oc [(g7, mnL mn0, 109), (gc, [.int .i64 (-72057594037927936)], 3), (g8, flL (0, 0), 32), (w.heap.size + 1, flL (0, 0), 32), (w.heap.size, exL h ka kn kc, 102)] V111) := HS110.out.allocE (mnL mn0) 109 hV hG
          refine hK.out _ _ (fun _ => HSS.out _ _ _ _ _ HS112.out (by simp)) ?_
          clear hK K HS110 hV hG
          simp only [Act.put, List.setIfInBounds_toArray, List.set_cons_succ, List.set_cons_zero]
          refine wpAnyY_one (i := 9) rfl (by kernel_rfl) (fun K hK => ?_)
          have HF115 : Hid (LS w O O2 b s s2 oc [(g7, mnL mn0, 109), (gc, [.int .i64 (-72057594037927936)], 3), (g8, flL (0, 0), 32), (w.heap.size + 1, flL (0, 0), 32), (w.heap.size, exL h ka kn kc, 102)] V111) := HS112.out.front (L1 := []) (L2 := [(gc, [.int .i64 (-72057594037927936)], 3), (g8, flL (0, 0), 32), (w.heap.size + 1, flL (0, 0), 32), (w.heap.size, exL h ka kn kc, 102)]) rfl
          refine store109_step rfl rfl rfl rfl rfl (HF115.out.blk (List.mem_cons_self ..)) ?_
          intro V113 hV
          have HS114 : Hid (LS w O O2 b s s2 oc [(g7, mnL m, 109), (gc, [.int .i64 (-72057594037927936)], 3), (g8, flL (0, 0), 32), (w.heap.size + 1, flL (0, 0), 32), (w.heap.size, exL h ka kn kc, 102)] V113) := HF115.out.store109 m HR.out.2.2.1.symm (by rw [hV, HR.out.2.1, HR.out.2.2.2.1, HR.out.2.2.2.2])
          refine hK.out _ _ (fun _ => HSS.out _ _ _ _ _ HS114.out (by simp)) ?_
          clear hK K HS112 hV HF115
          refine wpAnyY_one (i := 10) rfl (by kernel_rfl) (fun K hK => ?_)
          have HF118 : Hid (LS w O O2 b s s2 oc [(g8, flL (0, 0), 32), (g7, mnL m, 109), (gc, [.int .i64 (-72057594037927936)], 3), (w.heap.size + 1, flL (0, 0), 32), (w.heap.size, exL h ka kn kc, 102)] V113) := HS114.out.front (L1 := [(g7, mnL m, 109), (gc, [.int .i64 (-72057594037927936)], 3)]) (L2 := [(w.heap.size + 1, flL (0, 0), 32), (w.heap.size, exL h ka kn kc, 102)]) rfl
          refine store32_step rfl rfl rfl rfl rfl (HF118.out.blk (List.mem_cons_self ..)) ?_
          intro V116 hV
          have HS117 : Hid (LS w O O2 b s s2 oc [(g8, flL (f1, f2), 32), (g7, mnL m, 109), (gc, [.int .i64 (-72057594037927936)], 3), (w.heap.size + 1, flL (0, 0), 32), (w.heap.size, exL h ka kn kc, 102)] V116) := HF118.out.store32 (f1, f2) hV
          refine hK.out _ _ (fun _ => HSS.out _ _ _ _ _ HS117.out (by simp)) ?_
          clear hK K HS114 hV HF118
          refine wpAnyY_done (by kernel_rfl) ?_ _
          go_wp2_with fail
          go_meet
          exact ⟨g7, g8, mt, mx, mp, mn, f1, f2, rfl, rfl, m, oc, O2, s2, HR.out, HS117.out.sub (by simp) (by have := HS117.out.nd; simp at this ⊢; omega)⟩
        · refine alloc109_step rfl rfl rfl ?_
          intro V119 g7 hV hG
          have HS120 : Hid (LS w O O1 b s s (some c) [(g7, mnL mn0, 109), (gc, [.int .i64 (-72057594037927936)], 3), (g8, flL (0, 0), 32), (w.heap.size + 1, flL (0, 0), 32), (w.heap.size, exL h ka kn kc, 102)] V119) := HS108.out.allocE (mnL mn0) 109 hV hG
          refine hK.out _ _ (fun _ => HSS.out _ _ _ _ _ HS120.out (by simp)) ?_
          clear hK K HS108 hV hG
          simp only [Act.put, List.setIfInBounds_toArray, List.set_cons_succ, List.set_cons_zero]
          refine wpAnyY_one (i := 3) rfl (by kernel_rfl) (fun K hK => ?_)
          refine call89_step rfl rfl rfl rfl rfl rfl ?_
          refine (HAs.out _ _ _ _ gc HS120.out (by simp)).mono ?_
          rintro e V121 ⟨mt, mx, mp, mn, f1, f2, rfl, hV⟩
          refine ⟨_, rfl, ?_⟩
          obtain ⟨m, oc, O2, s2, hm, hRQ, hLS⟩ := hV.out
          have HS122 : Hid (LS w O O2 b s s2 oc [(g7, mnL mn0, 109), (gc, [.int .i64 (-72057594037927936)], 3), (g8, flL (0, 0), 32), (w.heap.size + 1, flL (0, 0), 32), (w.heap.size, exL h ka kn kc, 102)] V121) := hLS
          have HR : Hid (RQ r m (f1, f2) oc ∧ m.isText = mt ∧ bs m.text = mx ∧ m.place = mp ∧ m.num = mn) := ⟨hRQ, hm⟩
          refine hK.out _ _ (fun _ => HSS.out _ _ _ _ _ HS122.out (by simp)) ?_
          clear hK K HS120 hV hm hRQ hLS
          simp only [Act.put, List.setIfInBounds_toArray, List.set_cons_succ, List.set_cons_zero]
          refine wpAnyY_takeD (i := 4) 9 (v := .tuple #[.agg #[.bool mt, .string mx, .int .i64 mp, .int .i64 mn], .agg #[.int .i64 f1, .int .i64 f2]]) rfl rfl (by kernel_rfl) (by kernel_rfl) (late_of (by kernel_rfl)) (by kernel_rfl) (by kernel_rfl) (fun _ _ _ h => h) (HSS.out _ _ _ _ _ HS122.out (by simp)) (Or.inl ⟨by rfl, by (intro W hW; obtain ⟨_, _, _, _, _⟩ := hW; go_simp)⟩) ?_
          simp only [Act.put, List.setIfInBounds_toArray, List.set_cons_succ, List.set_cons_zero]
          refine wpAnyY_takeD (i := 5) 14 (v := .agg #[.bool mt, .string mx, .int .i64 mp, .int .i64 mn]) rfl rfl (by kernel_rfl) (by kernel_rfl) (late_of (by kernel_rfl)) (by kernel_rfl) (by kernel_rfl) (fun _ _ _ h => h) (HSS.out _ _ _ _ _ HS122.out (by simp)) (Or.inl ⟨by rfl, by (intro W hW; obtain ⟨_, _, _, _, _⟩ := hW; go_simp)⟩) ?_
          simp only [Act.put, List.setIfInBounds_toArray, List.set_cons_succ, List.set_cons_zero]
          refine wpAnyY_takeD (i := 6) 15 (v := .agg #[.int .i64 f1, .int .i64 f2]) rfl rfl (by kernel_rfl) (by kernel_rfl) (late_of (by kernel_rfl)) (by kernel_rfl) (by kernel_rfl) (fun _ _ _ h => h) (HSS.out _ _ _ _ _ HS122.out (by simp)) (Or.inl ⟨by rfl, by (intro W hW; obtain ⟨_, _, _, _, _⟩ := hW; go_simp)⟩) ?_
          simp only [Act.put, List.setIfInBounds_toArray, List.set_cons_succ, List.set_cons_zero]
          refine wpAnyY_one (i := 9) rfl (by kernel_rfl) (fun K hK => ?_)
          have HF125 : Hid (LS w O O2 b s s2 oc [(g7, mnL mn0, 109), (gc, [.int .i64 (-72057594037927936)], 3), (g8, flL (0, 0), 32), (w.heap.size + 1, flL (0, 0), 32), (w.heap.size, exL h ka kn kc, 102)] V121) := HS122.out.front (L1 := []) (L2 := [(gc, [.int .i64 (-72057594037927936)], 3), (g8, flL (0, 0), 32), (w.heap.size + 1, flL (0, 0), 32), (w.heap.size, exL h ka kn kc, 102)]) rfl
          refine store109_step rfl rfl rfl rfl rfl (HF125.out.blk (List.mem_cons_self ..)) ?_
          intro V123 hV
          have HS124 : Hid (LS w O O2 b s s2 oc [(g7, mnL m, 109), (gc, [.int .i64 (-72057594037927936)], 3), (g8, flL (0, 0), 32), (w.heap.size + 1, flL (0, 0), 32), (w.heap.size, exL h ka kn kc, 102)] V123) := HF125.out.store109 m HR.out.2.2.1.symm (by rw [hV, HR.out.2.1, HR.out.2.2.2.1, HR.out.2.2.2.2])
          refine hK.out _ _ (fun _ => HSS.out _ _ _ _ _ HS124.out (by simp)) ?_
          clear hK K HS122 hV HF125
          refine wpAnyY_one (i := 10) rfl (by kernel_rfl) (fun K hK => ?_)
          have HF128 : Hid (LS w O O2 b s s2 oc [(g8, flL (0, 0), 32), (g7, mnL m, 109), (gc, [.int .i64 (-72057594037927936)], 3), (w.heap.size + 1, flL (0, 0), 32), (w.heap.size, exL h ka kn kc, 102)] V123) := HS124.out.front (L1 := [(g7, mnL m, 109), (gc, [.int .i64 (-72057594037927936)], 3)]) (L2 := [(w.heap.size + 1, flL (0, 0), 32), (w.heap.size, exL h ka kn kc, 102)]) rfl
          refine store32_step rfl rfl rfl rfl rfl (HF128.out.blk (List.mem_cons_self ..)) ?_
          intro V126 hV
          have HS127 : Hid (LS w O O2 b s s2 oc [(g8, flL (f1, f2), 32), (g7, mnL m, 109), (gc, [.int .i64 (-72057594037927936)], 3), (w.heap.size + 1, flL (0, 0), 32), (w.heap.size, exL h ka kn kc, 102)] V126) := HF128.out.store32 (f1, f2) hV
          refine hK.out _ _ (fun _ => HSS.out _ _ _ _ _ HS127.out (by simp)) ?_
          clear hK K HS124 hV HF128
          refine wpAnyY_done (by kernel_rfl) ?_ _
          go_wp2_with fail
          go_meet
          exact ⟨g7, g8, mt, mx, mp, mn, f1, f2, rfl, rfl, m, oc, O2, s2, HR.out, HS127.out.sub (by simp) (by have := HS127.out.nd; simp at this ⊢; omega)⟩
      · refine alloc109_step rfl rfl rfl ?_
        intro V129 g7 hV hG
        have HS130 : Hid (LS w O O1 b s s (some c) [(g7, mnL mn0, 109), (g8, flL (0, 0), 32), (w.heap.size + 1, flL (0, 0), 32), (w.heap.size, exL h ka kn kc, 102)] V129) := HS106.out.allocE (mnL mn0) 109 hV hG
        refine hK.out _ _ (fun _ => HSS.out _ _ _ _ _ HS130.out (by simp)) ?_
        clear hK K HS106 hV hG
        simp only [Act.put, List.setIfInBounds_toArray, List.set_cons_succ, List.set_cons_zero]
        refine wpAnyY_one (i := 2) rfl (by kernel_rfl) (fun K hK => ?_)
        refine call95c_step rfl rfl rfl ?_
        intro V131 gc hV hG
        have HS132 : Hid (LS w O O1 b s s (some c) [(gc, [.int .i64 (-72057594037927936)], 3), (g7, mnL mn0, 109), (g8, flL (0, 0), 32), (w.heap.size + 1, flL (0, 0), 32), (w.heap.size, exL h ka kn kc, 102)] V131) := HS130.out.allocE _ 3 hV hG
        refine hK.out _ _ (fun _ => HSS.out _ _ _ _ _ HS132.out (by simp)) ?_
        clear hK K HS130 hV hG
        simp only [Act.put, List.setIfInBounds_toArray, List.set_cons_succ, List.set_cons_zero]
        refine wpAnyY_one (i := 3) rfl (by kernel_rfl) (fun K hK => ?_)
        refine call89_step rfl rfl rfl rfl rfl rfl ?_
        refine (HAs.out _ _ _ _ gc HS132.out (by simp)).mono ?_
        rintro e V133 ⟨mt, mx, mp, mn, f1, f2, rfl, hV⟩
        refine ⟨_, rfl, ?_⟩
        obtain ⟨m, oc, O2, s2, hm, hRQ, hLS⟩ := hV.out
        have HS134 : Hid (LS w O O2 b s s2 oc [(gc, [.int .i64 (-72057594037927936)], 3), (g7, mnL mn0, 109), (g8, flL (0, 0), 32), (w.heap.size + 1, flL (0, 0), 32), (w.heap.size, exL h ka kn kc, 102)] V133) := hLS
        have HR : Hid (RQ r m (f1, f2) oc ∧ m.isText = mt ∧ bs m.text = mx ∧ m.place = mp ∧ m.num = mn) := ⟨hRQ, hm⟩
        refine hK.out _ _ (fun _ => HSS.out _ _ _ _ _ HS134.out (by simp)) ?_
        clear hK K HS132 hV hm hRQ hLS
        simp only [Act.put, List.setIfInBounds_toArray, List.set_cons_succ, List.set_cons_zero]
        refine wpAnyY_takeD (i := 4) 9 (v := .tuple #[.agg #[.bool mt, .string mx, .int .i64 mp, .int .i64 mn], .agg #[.int .i64 f1, .int .i64 f2]]) rfl rfl (by kernel_rfl) (by kernel_rfl) (late_of (by kernel_rfl)) (by kernel_rfl) (by kernel_rfl) (fun _ _ _ h => h) (HSS.out _ _ _ _ _ HS134.out (by simp)) (Or.inl ⟨by rfl, by (intro W hW; obtain ⟨_, _, _, _, _⟩ := hW; go_simp)⟩) ?_
        simp only [Act.put, List.setIfInBounds_toArray, List.set_cons_succ, List.set_cons_zero]
        refine wpAnyY_takeD (i := 5) 14 (v := .agg #[.bool mt, .string mx, .int .i64 mp, .int .i64 mn]) rfl rfl (by kernel_rfl) (by kernel_rfl) (late_of (by kernel_rfl)) (by kernel_rfl) (by kernel_rfl) (fun _ _ _ h => h) (HSS.out _ _ _ _ _ HS134.out (by simp)) (Or.inl ⟨by rfl, by (intro W hW; obtain ⟨_, _, _, _, _⟩ := hW; go_simp)⟩) ?_
        simp only [Act.put, List.setIfInBounds_toArray, List.set_cons_succ, List.set_cons_zero]
        refine wpAnyY_takeD (i := 6) 15 (v := .agg #[.int .i64 f1, .int .i64 f2]) rfl rfl (by kernel_rfl) (by kernel_rfl) (late_of (by kernel_rfl)) (by kernel_rfl) (by kernel_rfl) (fun _ _ _ h => h) (HSS.out _ _ _ _ _ HS134.out (by simp)) (Or.inl ⟨by rfl, by (intro W hW; obtain ⟨_, _, _, _, _⟩ := hW; go_simp)⟩) ?_
        simp only [Act.put, List.setIfInBounds_toArray, List.set_cons_succ, List.set_cons_zero]
        refine wpAnyY_one (i := 9) rfl (by kernel_rfl) (fun K hK => ?_)
        have HF137 : Hid (LS w O O2 b s s2 oc [(g7, mnL mn0, 109), (gc, [.int .i64 (-72057594037927936)], 3), (g8, flL (0, 0), 32), (w.heap.size + 1, flL (0, 0), 32), (w.heap.size, exL h ka kn kc, 102)] V133) := HS134.out.front (L1 := [(gc, [.int .i64 (-72057594037927936)], 3)]) (L2 := [(g8, flL (0, 0), 32), (w.heap.size + 1, flL (0, 0), 32), (w.heap.size, exL h ka kn kc, 102)]) rfl
        refine store109_step rfl rfl rfl rfl rfl (HF137.out.blk (List.mem_cons_self ..)) ?_
        intro V135 hV
        have HS136 : Hid (LS w O O2 b s s2 oc [(g7, mnL m, 109), (gc, [.int .i64 (-72057594037927936)], 3), (g8, flL (0, 0), 32), (w.heap.size + 1, flL (0, 0), 32), (w.heap.size, exL h ka kn kc, 102)] V135) := HF137.out.store109 m HR.out.2.2.1.symm (by rw [hV, HR.out.2.1, HR.out.2.2.2.1, HR.out.2.2.2.2])
        refine hK.out _ _ (fun _ => HSS.out _ _ _ _ _ HS136.out (by simp)) ?_
        clear hK K HS134 hV HF137
        refine wpAnyY_one (i := 10) rfl (by kernel_rfl) (fun K hK => ?_)
        have HF140 : Hid (LS w O O2 b s s2 oc [(g8, flL (0, 0), 32), (g7, mnL m, 109), (gc, [.int .i64 (-72057594037927936)], 3), (w.heap.size + 1, flL (0, 0), 32), (w.heap.size, exL h ka kn kc, 102)] V135) := HS136.out.front (L1 := [(g7, mnL m, 109), (gc, [.int .i64 (-72057594037927936)], 3)]) (L2 := [(w.heap.size + 1, flL (0, 0), 32), (w.heap.size, exL h ka kn kc, 102)]) rfl
        refine store32_step rfl rfl rfl rfl rfl (HF140.out.blk (List.mem_cons_self ..)) ?_
        intro V138 hV
        have HS139 : Hid (LS w O O2 b s s2 oc [(g8, flL (f1, f2), 32), (g7, mnL m, 109), (gc, [.int .i64 (-72057594037927936)], 3), (w.heap.size + 1, flL (0, 0), 32), (w.heap.size, exL h ka kn kc, 102)] V138) := HF140.out.store32 (f1, f2) hV
        refine hK.out _ _ (fun _ => HSS.out _ _ _ _ _ HS139.out (by simp)) ?_
        clear hK K HS136 hV HF140
        refine wpAnyY_done (by kernel_rfl) ?_ _
        go_wp2_with fail
        go_meet
        exact ⟨g7, g8, mt, mx, mp, mn, f1, f2, rfl, rfl, m, oc, O2, s2, HR.out, HS139.out.sub (by simp) (by have := HS139.out.nd; simp at this ⊢; omega)⟩
  case rest =>
    obtain ⟨g7, g8, mt, mx, mp, mn, f1, f2, rfl, rfl, m, oc, O2, s2, ⟨hRQ, e1, e2, e3, e4⟩, hL⟩ := hcut
    clear HAs HSS HS0
    cases r with
    | error f' =>
      obtain ⟨rfl, hf, -, rfl⟩ := hRQ
      have HX2 : Hid (singleB set c (h, k) = .error (f1, f2)) := HX.out
      have HF : Hid (f1 ≠ 0) := hf
      have hq : (f1 == 0) = false := by rw [beq_eq_false_iff_ne]; exact hf
      have HL : Hid (LS w O O2 b s s2 none [(g7, mnL m, 109), (g8, flL (f1, f2), 32), (w.heap.size + 1, flL (0, 0), 32)] wc) := hL
      have y0 : wc.cell? ⟨g8, 0, none⟩ = some (.int .i64 f1) := HL.out.at (g := g8) (cs := flL (f1, f2)) (ty := 32) (by simp) rfl
      have y1 : wc.cell? ⟨g8, 1, none⟩ = some (.int .i64 f2) := HL.out.at (g := g8) (cs := flL (f1, f2)) (ty := 32) (by simp) rfl
      have z0 : wc.cell? ⟨w.heap.size + 1, 0, none⟩ = some (.int .i64 0) := HL.out.at (g := w.heap.size + 1) (cs := flL (0, 0)) (ty := 32) (by simp) rfl
      have z1 : wc.cell? ⟨w.heap.size + 1, 1, none⟩ = some (.int .i64 0) := HL.out.at (g := w.heap.size + 1) (cs := flL (0, 0)) (ty := 32) (by simp) rfl
      have zf : ∀ i, wc.frozen? ⟨w.heap.size + 1, i, none⟩ = false := fun i => HL.out.fz (g := w.heap.size + 1) (cs := flL (0, 0)) (ty := 32) (by simp) i
      clear HX HRM HP hf hL e1 e2 e3 e4
      go_wp2
      refine bodyPost_ret (v := flV (f1, f2)) ?_ rfl ?_
      · simp only [results, hres]
        unfold flV
        simp only
        go_simp
      · show TPost _ _ _ _ _ _
        rw [HX2.out]
        exact ⟨HF.out, rfl, (HL.out.fr.setCell (.inr (by omega)) _ _).setCell (.inr (by omega)) _ _⟩
    | ok x =>
      obtain ⟨c', m'⟩ := x
      obtain ⟨hf, rfl, rfl⟩ := hRQ
      cases hf
      have HX2 : Hid (singleB set c (h, k) = .ok (set c' m.place)) := HX.out
      have HL : Hid (LS w O O2 b s s2 (some c') [(g7, mnL m, 109), (g8, flL (0, 0), 32), (w.heap.size + 1, flL (0, 0), 32)] wc) := hL
      obtain ⟨hk1, hk2, hk3⟩ := hL.ck c' rfl
      obtain ⟨p1, ⟨pv, p2⟩, p3, p4⟩ := HP.out O2 s2 c' wc m.place hk1 hk3 (HRM.out c' m rfl)
      have y2 : wc.cell? ⟨g7, 2, none⟩ = some (.int .i64 m.place) := HL.out.at (g := g7) (cs := mnL m) (ty := 109) (by simp) rfl
      have y0 : wc.cell? ⟨g8, 0, none⟩ = some (.int .i64 0) := HL.out.at (g := g8) (cs := flL (0, 0)) (ty := 32) (by simp) rfl
      have y1 : wc.cell? ⟨g8, 1, none⟩ = some (.int .i64 0) := HL.out.at (g := g8) (cs := flL (0, 0)) (ty := 32) (by simp) rfl
      have z0 : wc.cell? ⟨w.heap.size + 1, 0, none⟩ = some (.int .i64 0) := HL.out.at (g := w.heap.size + 1) (cs := flL (0, 0)) (ty := 32) (by simp) rfl
      have z1 : wc.cell? ⟨w.heap.size + 1, 1, none⟩ = some (.int .i64 0) := HL.out.at (g := w.heap.size + 1) (cs := flL (0, 0)) (ty := 32) (by simp) rfl
      have zf : ∀ i, wc.frozen? ⟨w.heap.size + 1, i, none⟩ = false := fun i => HL.out.fz (g := w.heap.size + 1) (cs := flL (0, 0)) (ty := 32) (by simp) i
      have hne8 : ¬ g8 = pb := fun e => (HL.out.loc (g8, flL (0, 0), 32) (by simp)).1.off (by show O2 g8; rw [e]; exact p1)
      have hner : ¬ w.heap.size + 1 = pb := fun e => (HL.out.loc (w.heap.size + 1, flL (0, 0), 32) (by simp)).1.off (by show O2 (w.heap.size + 1); rw [e]; exact p1)
      have HQ : Hid (O2 pb ∧ CkAt O2 b s2 (set c' m.place) (wc.setCell ⟨pb, pi, none⟩ (.int .i64 m.place))) := ⟨p1, p4⟩
      have hres2 : Hid (¬ O2 (w.heap.size + 1)) := (HL.out.loc (w.heap.size + 1, flL (0, 0), 32) (by simp)).1.off
      generalize m.place = mpl at *
      clear HX HRM HP hL e1 e2 e3 e4 hk1 hk2 hk3 p1 p4
      go_wp2
      refine bodyPost_ret (v := flV (0, 0)) ?_ rfl ?_
      · simp only [results, hres]
        unfold flV
        simp only
        go_simp
      · show TPost _ _ _ _ _ _
        rw [HX2.out]
        refine ⟨rfl, ((HL.out.fr.setCell (HL.out.new pb HQ.out.1) _ _).setCell (.inr (by omega)) _ _).setCell (.inr (by omega)) _ _, O2, s2, HL.out.new, ?_⟩
        exact ck_set (ck_set HQ.out.2 hres2.out _ _) hres2.out _ _

end Go.Proofs.YtlaodgdlkkmmeaaGreat
