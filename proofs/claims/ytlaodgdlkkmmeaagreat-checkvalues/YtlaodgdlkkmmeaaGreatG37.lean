/-
  A name is given: let. How far from the diagonal paths may go: band. The number of a letter: code; whether a text is a pair of letters: what pair asks.
-/
import Derived.Deep.QuietTactic
import Derived.BigQuiet
import Derived.Test.YtlaodgdlkkmmeaaGreatG36
import Derived.Test.YtlaodgdlkkmmeaaGreatG35
namespace Go.Proofs.YtlaodgdlkkmmeaaGreat
open Go.RowKit Go.Deep Go.Maps

def let2 (name : List UInt8) : Er (Ck × Mn) → Er Ck
  | .error f => .error f
  | .ok (c1, m) => .ok { c1 with names := (name, m) :: c1.names }
theorem LS.putName {w W : World} {O0 O : Nat → Prop} {b : Nat} {s0 s : Sl} {c : Ck} {L : List Lo} (h : LS w O0 O b s0 s (some c) L W) (hn : c.names.length < 1000) (name : List UInt8) (hs : name.length ≤ maxLen) (m : Mn) (hm : MnOk c.values.length m) :
    ∃ w', (Instr.mapUpdate 70 (.map (some s.mb)) (.string (bs name)) (mnV m)).run Tryz.prog W = .ok () w' ∧ LS w O0 O b s0 s (some { c with names := (name, m) :: c.names }) L w' := by
  obtain ⟨a1, a2, a3⟩ := h.ck c rfl
  obtain ⟨w', hrun, hN, hg⟩ := nm_put a1.names hn name hs m
  have hmb : ∀ g, g ≠ s.mb → g < W.heap.size → w'.heap[g]? = W.heap[g]? := fun g hne hlt => hg.block g hlt (fun e => hne (by cases e; rfl))
  have hb : w'.heap[b]? = W.heap[b]? := hmb b (fun e => nm_ne a1.names a1.block e.symm) a1.lt
  refine ⟨w', hrun, fun c' hc => ?_, ?_, h.new, fun g hg2 => Nat.lt_of_lt_of_le (h.tight g hg2) hg.size, fun x hx => ?_, h.nd⟩
  · cases hc
    refine ⟨⟨by rw [hb]; exact a1.block, ?_, ?_, ?_, ?_, hN, a1.apart, a1.inB, a1.inD, a1.inS, a1.inP, a1.inV, a1.inM⟩, ⟨a2.vals, a2.same, a2.few, fun t m' hl => ?_, a2.alpha, a2.sub, a2.pcs⟩, a3⟩
    · exact owned_of_block a1.defs fun g _ hv hbk => hmb g (fun e => own_nm a1.defs a1.names (e ▸ hv)) (lt_block hbk)
    · exact owned_of_block a1.subst fun g _ hv hbk => hmb g (fun e => own_nm a1.subst a1.names (e ▸ hv)) (lt_block hbk)
    · exact owned_of_block a1.pieces fun g _ hv hbk => hmb g (fun e => own_nm a1.pieces a1.names (e ▸ hv)) (lt_block hbk)
    · exact owned_of_block a1.values fun g _ hv hbk => hmb g (fun e => own_nm a1.values a1.names (e ▸ hv)) (lt_block hbk)
    · simp only [lookN] at hl
      split at hl
      · cases hl; exact hm
      · exact a2.names t m' hl
  · exact h.fr.grown hg (fun k hk => by cases hk; exact h.new _ a1.inM)
  · obtain ⟨l1, l2⟩ := h.loc x hx
    exact ⟨⟨by rw [hmb x.1 (fun e => l1.off (by rw [e]; exact a1.inM)) l1.lt]; exact l1.heap, l1.off⟩, l2⟩
set_option maxRecDepth 20000 in
set_option maxHeartbeats 4000000 in
theorem let_calls {B : Nat} {O : Nat → Prop} {b : Nat} {s : Sl} {c : Ck} (name : List UInt8) (h : Hd) (k : Fo) (ka : Option Addr) (kn kc : Nat) (w : World) (hck : CkAt O b s c w) (hok : CkOk c) (hlow : ∀ g, O g → B ≤ g) (hB : B ≤ w.heap.size)
    (hE : ExAt false (fun g => g < B) w (h, k) ka kn) (hr : okE h k) (hnm : c.names.length < 1000) (hname : name.length ≤ maxLen) :
    Calls Tryz.prog 50 #[.pointer (some ⟨b, 0, none⟩), .string (bs name), exV h ka kn kc] w (TPost O b w (letB c name (h, k))) := by
  have hres : Tryz.f50.results = #[.cell 6 32] := by kernel_rfl
  have hS1 := LS.start2 hck hok h ka kn kc
  have hC : ∀ O' s' L W, LS w O O' b s s' (some c) L W → Calls Tryz.prog 88 #[.pointer (some ⟨b, 0, none⟩), exV h ka kn kc] W (XPost O' b s' W (askE c (h, k))) := fun O' s' L W hL => by
    have hlow' : ∀ g, O' g → B ≤ g := fun q hq => by rcases hL.new q hq with h1 | h1; exact hlow q h1; omega
    have hkp : ∀ q, q < w.heap.size → q < B → W.heap[q]? = w.heap[q]? := fun q hq hqB => hL.fr.block q hq (fun ho => by have := hlow q ho; omega)
    exact exprC_calls h k ka kn kc W (hL.ck c rfl).1 hok hlow' (Nat.le_trans hB hL.fr.size) ⟨hE.hd, hE.few, foAt_keep hkp hE.kids⟩ hr
  have hokE : ∀ c' m, askE c (h, k) = .ok (c', m) → CkOk c' ∧ MnOk c'.values.length m ∧ Sm c c' := fun c' m he => askE_ok hok hr hE.hd.text (foAt_short hE.kids) he
  generalize hO1 : (fun g => O g ∧ g < w.heap.size) = O1 at hS1
  clear hO1 hck hok hlow hB hE hr
  have HS1 : Hid (LS w O O1 b s s (some c) [(w.heap.size + 1, flL (0, 0), 32), (w.heap.size, exL h ka kn kc, 102)] ((w.alloc (.cells #[.int .i64 h.kind, .int .i64 h.num, .string (bs h.text), .slice ka kn kc, .int .i64 h.pl] 102)).alloc (.cells #[.int .i64 0, .int .i64 0] 32))) := hS1
  clear hS1
  unfold exV at hC ⊢
  obtain ⟨tn, htn⟩ : ∃ tn, tn = bs name := ⟨_, rfl⟩
  rw [← htn]
  have HTN : Hid (tn = bs name) := htn
  clear htn
  go_enter Tryz.func50, Tryz.ntmps50
  go_upto_region 1 with (fail)
  generalize ((w.alloc (.cells #[.int .i64 h.kind, .int .i64 h.num, .string (bs h.text), .slice ka kn kc, .int .i64 h.pl] 102)).alloc (.cells #[.int .i64 0, .int .i64 0] 32)) = w1 at *
  have x0 : w1.cell? ⟨w.heap.size, 0, none⟩ = some (.int .i64 h.kind) := HS1.out.at (g := w.heap.size) (cs := exL h ka kn kc) (ty := 102) (by simp) rfl
  have x1 : w1.cell? ⟨w.heap.size, 1, none⟩ = some (.int .i64 h.num) := HS1.out.at (g := w.heap.size) (cs := exL h ka kn kc) (ty := 102) (by simp) rfl
  have x2 : w1.cell? ⟨w.heap.size, 2, none⟩ = some (.string (bs h.text)) := HS1.out.at (g := w.heap.size) (cs := exL h ka kn kc) (ty := 102) (by simp) rfl
  have x3 : w1.cell? ⟨w.heap.size, 3, none⟩ = some (.slice ka kn kc) := HS1.out.at (g := w.heap.size) (cs := exL h ka kn kc) (ty := 102) (by simp) rfl
  have x4 : w1.cell? ⟨w.heap.size, 4, none⟩ = some (.int .i64 h.pl) := HS1.out.at (g := w.heap.size) (cs := exL h ka kn kc) (ty := 102) (by simp) rfl
  have HC0 := HS1.out.asks (hC O1 s _ w1 HS1.out) (fun c' m hm => (hokE c' m hm).1)
  obtain ⟨r, hrr⟩ : ∃ r, r = askE c (h, k) := ⟨_, rfl⟩
  rw [← hrr] at HC0 hokE
  have HC : Hid (Calls Tryz.prog 88 #[.pointer (some ⟨b, 0, none⟩), .agg #[.int .i64 h.kind, .int .i64 h.num, .string (bs h.text), .slice ka kn kc, .int .i64 h.pl]] w1 fun e w' => ∃ m f oc O' s', e = .returned (.tuple #[.agg #[.bool m.isText, .string (bs m.text), .int .i64 m.place, .int .i64 m.num], .agg #[.int .i64 f.1, .int .i64 f.2]]) ∧ Hid (RQ r m f oc ∧ LS w O O' b s s' oc [(w.heap.size + 1, flL (0, 0), 32), (w.heap.size, exL h ka kn kc, 102)] w')) := HC0
  have HX : Hid (letB c name (h, k) = let2 name r) := by show _ = _; rw [hrr]; rfl
  clear hC HC0 HS1 hrr
  generalize bs h.text = tx at *
  go_wp2_with fail
  refine HC.out.mono ?_
  rintro e w3 ⟨m, f, oc, O2, s2, rfl, HR⟩
  clear HC x0 x1 x2 x3 x4
  cases r with
  | error f' =>
    obtain ⟨⟨rfl, hf, rfl, rfl⟩, hL⟩ := HR.out
    have HX2 : Hid (letB c name (h, k) = .error f) := HX.out
    have HB : Hid (LS w O O2 b s s2 none [(w.heap.size + 1, flL (0, 0), 32), (w.heap.size, exL h ka kn kc, 102)] w3) := hL
    clear HX HR hL hokE
    obtain ⟨f1, f2⟩ := f
    simp only at hf ⊢
    have HF : Hid (f1 ≠ 0) := hf
    have hq : (f1 == 0) = false := by rw [beq_eq_false_iff_ne]; exact hf
    clear hf
    have z0 : w3.cell? ⟨w.heap.size + 1, 0, none⟩ = some (.int .i64 0) := HB.out.at (g := w.heap.size + 1) (cs := flL (0, 0)) (ty := 32) (by simp) rfl
    have z1 : w3.cell? ⟨w.heap.size + 1, 1, none⟩ = some (.int .i64 0) := HB.out.at (g := w.heap.size + 1) (cs := flL (0, 0)) (ty := 32) (by simp) rfl
    have zf : ∀ i, w3.frozen? ⟨w.heap.size + 1, i, none⟩ = false := fun i => HB.out.fz (g := w.heap.size + 1) (cs := flL (0, 0)) (ty := 32) (by simp) i
    have hl1 : w.heap.size + 1 < w3.heap.size := HB.out.lt (g := w.heap.size + 1) (cs := flL (0, 0)) (ty := 32) (by simp)
    have hl0 : w.heap.size < w3.heap.size := by omega
    have hn1 : ¬ w.heap.size + 1 = w3.heap.size := by omega
    have hn2 : ¬ w.heap.size = w3.heap.size := by omega
    go_wp2
    refine bodyPost_ret (v := flV (f1, f2)) ?_ rfl ?_
    · simp only [results, hres]
      unfold flV
      simp only
      go_simp
    · show TPost _ _ _ _ _ _
      rw [HX2.out]
      exact ⟨HF.out, rfl, (((HB.out.fr.setCell (.inr (by omega)) _ _).setCell (.inr (by omega)) _ _).alloc _).alloc _⟩
  | ok x =>
    obtain ⟨c1, m'⟩ := x
    obtain ⟨⟨rfl, rfl, rfl⟩, hL⟩ := HR.out
    obtain ⟨k1, k2, k3⟩ := hokE c1 m rfl
    have HX2 : Hid (letB c name (h, k) = .ok { c1 with names := (name, m) :: c1.names }) := HX.out
    have hnm1 : c1.names.length < 1000 := by rw [k3.names]; exact hnm
    have HV : Hid (LS w O O2 b s s2 (some c1) ((w3.heap.size + 1, flL (0, 0), 32) :: (w3.heap.size, mnL m, 109) :: [(w.heap.size + 1, flL (0, 0), 32), (w.heap.size, exL h ka kn kc, 102)]) ((w3.alloc (.cells #[.bool m.isText, .string (bs m.text), .int .i64 m.place, .int .i64 m.num] 109)).alloc (.cells #[.int .i64 0, .int .i64 0] 32))) := by
      have h1 := (hL.alloc (mnL m) 109).alloc (flL (0, 0)) 32
      rw [show (w3.alloc (.cells (mnL m).toArray 109)).heap.size = w3.heap.size + 1 by simp] at h1
      exact h1
    have HPN : Hid (∀ W, LS w O O2 b s s2 (some c1) ((w3.heap.size + 1, flL (0, 0), 32) :: (w3.heap.size, mnL m, 109) :: [(w.heap.size + 1, flL (0, 0), 32), (w.heap.size, exL h ka kn kc, 102)]) W → ∃ w', (Instr.mapUpdate 70 (.map (some s2.mb)) (.string tn) (.agg #[.bool m.isText, .string (bs m.text), .int .i64 m.place, .int .i64 m.num])).run Tryz.prog W = .ok () w' ∧ LS w O O2 b s s2 (some { c1 with names := (name, m) :: c1.names }) ((w3.heap.size + 1, flL (0, 0), 32) :: (w3.heap.size, mnL m, 109) :: [(w.heap.size + 1, flL (0, 0), 32), (w.heap.size, exL h ka kn kc, 102)]) w') := fun W hW => by
      rw [HTN.out]
      exact hW.putName hnm1 name hname m k2
    have HSS : Hid (∀ W, LS w O O2 b s s2 (some c1) ((w3.heap.size + 1, flL (0, 0), 32) :: (w3.heap.size, mnL m, 109) :: [(w.heap.size + 1, flL (0, 0), 32), (w.heap.size, exL h ka kn kc, 102)]) W → W.cell? ⟨b, 12, none⟩ = some (.map (some s2.mb)) ∧ W.cell? ⟨w3.heap.size, 0, none⟩ = some (.bool m.isText) ∧ W.cell? ⟨w3.heap.size, 1, none⟩ = some (.string (bs m.text)) ∧ W.cell? ⟨w3.heap.size, 2, none⟩ = some (.int .i64 m.place) ∧ W.cell? ⟨w3.heap.size, 3, none⟩ = some (.int .i64 m.num)) := fun W hW =>
      ⟨(hW.ck c1 rfl).1.c12, hW.at (g := w3.heap.size) (cs := mnL m) (ty := 109) (by simp) rfl, hW.at (g := w3.heap.size) (cs := mnL m) (ty := 109) (by simp) rfl, hW.at (g := w3.heap.size) (cs := mnL m) (ty := 109) (by simp) rfl, hW.at (g := w3.heap.size) (cs := mnL m) (ty := 109) (by simp) rfl⟩
    clear HX HR hL hokE k1 k2 k3 hnm1
    obtain ⟨mt, mx, mp, mn⟩ := m
    simp only at HV HPN HSS ⊢
    generalize bs mx = bx at *
    go_upto_region 3 with (fail)
    generalize ((w3.alloc (.cells #[.bool mt, .string bx, .int .i64 mp, .int .i64 mn] 109)).alloc (.cells #[.int .i64 0, .int .i64 0] 32)) = V at *
    have HV1 : Hid (LS w O O2 b s s2 (some c1) ((w3.heap.size + 1, flL (0, 0), 32) :: (w3.heap.size, mnL ⟨mt, mx, mp, mn⟩, 109) :: [(w.heap.size + 1, flL (0, 0), 32), (w.heap.size, exL h ka kn kc, 102)]) V.drew) := HV.out.drew
    have HS0 : Hid (V.drew.cell? ⟨b, 12, none⟩ = some (.map (some s2.mb)) ∧ V.drew.cell? ⟨w3.heap.size, 0, none⟩ = some (.bool mt) ∧ V.drew.cell? ⟨w3.heap.size, 1, none⟩ = some (.string bx) ∧ V.drew.cell? ⟨w3.heap.size, 2, none⟩ = some (.int .i64 mp) ∧ V.drew.cell? ⟨w3.heap.size, 3, none⟩ = some (.int .i64 mn)) := HSS.out _ HV1.out
    obtain ⟨w5, hrun, hL5⟩ := HPN.out _ HV1.out
    have HL5 : Hid (LS w O O2 b s s2 (some { c1 with names := (name, ⟨mt, mx, mp, mn⟩) :: c1.names }) ((w3.heap.size + 1, flL (0, 0), 32) :: (w3.heap.size, mnL ⟨mt, mx, mp, mn⟩, 109) :: [(w.heap.size + 1, flL (0, 0), 32), (w.heap.size, exL h ka kn kc, 102)]) w5) := hL5
    refine wp_region_Y (fun j => [6].contains j) (fun W => W.cell? ⟨b, 12, none⟩ = some (.map (some s2.mb)) ∧ W.cell? ⟨w3.heap.size, 0, none⟩ = some (.bool mt) ∧ W.cell? ⟨w3.heap.size, 1, none⟩ = some (.string bx) ∧ W.cell? ⟨w3.heap.size, 2, none⟩ = some (.int .i64 mp) ∧ W.cell? ⟨w3.heap.size, 3, none⟩ = some (.int .i64 mn)) (by kernel_rfl) ?_
    refine wpAnyY_takeD (i := 0) 18 (v := .pointer (some ⟨b, 0, none⟩)) rfl rfl (by kernel_rfl) (by kernel_rfl) (late_of (by kernel_rfl)) (by kernel_rfl) (by kernel_rfl) (fun _ _ _ h => h) HS0.out (Or.inl ⟨by rfl, by (intro W hW; obtain ⟨_, _, _, _, _⟩ := hW; go_simp)⟩) ?_
    simp only [Act.put, List.setIfInBounds_toArray, List.set_cons_succ, List.set_cons_zero]
    refine wpAnyY_takeD (i := 1) 19 (v := .pointer (some ⟨b, 0, none⟩)) rfl rfl (by kernel_rfl) (by kernel_rfl) (late_of (by kernel_rfl)) (by kernel_rfl) (by kernel_rfl) (fun _ _ _ h => h) HS0.out (Or.inl ⟨by rfl, by (intro W hW; obtain ⟨_, _, _, _, _⟩ := hW; go_simp)⟩) ?_
    simp only [Act.put, List.setIfInBounds_toArray, List.set_cons_succ, List.set_cons_zero]
    refine wpAnyY_takeD (i := 2) 20 (v := .pointer (some ⟨b, 12, none⟩)) rfl rfl (by kernel_rfl) (by kernel_rfl) (late_of (by kernel_rfl)) (by kernel_rfl) (by kernel_rfl) (fun _ _ _ h => h) HS0.out (Or.inl ⟨by rfl, by (intro W hW; obtain ⟨_, _, _, _, _⟩ := hW; go_simp)⟩) ?_
    simp only [Act.put, List.setIfInBounds_toArray, List.set_cons_succ, List.set_cons_zero]
    refine wpAnyY_takeD (i := 3) 21 (v := .map (some s2.mb)) rfl rfl (by kernel_rfl) (by kernel_rfl) (late_of (by kernel_rfl)) (by kernel_rfl) (by kernel_rfl) (fun _ _ _ h => h) HS0.out (Or.inl ⟨by rfl, by (intro W hW; obtain ⟨_, _, _, _, _⟩ := hW; go_simp)⟩) ?_
    simp only [Act.put, List.setIfInBounds_toArray, List.set_cons_succ, List.set_cons_zero]
    refine wpAnyY_takeD (i := 4) 22 (v := .string tn) rfl rfl (by kernel_rfl) (by kernel_rfl) (late_of (by kernel_rfl)) (by kernel_rfl) (by kernel_rfl) (fun _ _ _ h => h) HS0.out (Or.inl ⟨by rfl, by (intro W hW; obtain ⟨_, _, _, _, _⟩ := hW; go_simp)⟩) ?_
    simp only [Act.put, List.setIfInBounds_toArray, List.set_cons_succ, List.set_cons_zero]
    refine wpAnyY_takeD (i := 5) 23 (v := .agg #[.bool mt, .string bx, .int .i64 mp, .int .i64 mn]) rfl rfl (by kernel_rfl) (by kernel_rfl) (late_of (by kernel_rfl)) (by kernel_rfl) (by kernel_rfl) (fun _ _ _ h => h) HS0.out (Or.inl ⟨by rfl, by (intro W hW; obtain ⟨_, _, _, _, _⟩ := hW; go_simp)⟩) ?_
    simp only [Act.put, List.setIfInBounds_toArray, List.set_cons_succ, List.set_cons_zero]
    refine wpAnyY_one (i := 6) rfl (by kernel_rfl) (fun K hK => ?_)
    go_simp
    refine hK.out _ _ (fun h => absurd h (by decide)) ?_
    clear hK K HS0 HSS HPN hrun hL5 HV HV1
    refine wpAnyY_done (by kernel_rfl) ?_ _
    have y0 : w5.cell? ⟨w3.heap.size + 1, 0, none⟩ = some (.int .i64 0) := HL5.out.at (g := w3.heap.size + 1) (cs := flL (0, 0)) (ty := 32) (by simp) rfl
    have y1 : w5.cell? ⟨w3.heap.size + 1, 1, none⟩ = some (.int .i64 0) := HL5.out.at (g := w3.heap.size + 1) (cs := flL (0, 0)) (ty := 32) (by simp) rfl
    have z0 : w5.cell? ⟨w.heap.size + 1, 0, none⟩ = some (.int .i64 0) := HL5.out.at (g := w.heap.size + 1) (cs := flL (0, 0)) (ty := 32) (by simp) rfl
    have z1 : w5.cell? ⟨w.heap.size + 1, 1, none⟩ = some (.int .i64 0) := HL5.out.at (g := w.heap.size + 1) (cs := flL (0, 0)) (ty := 32) (by simp) rfl
    have zf : ∀ i, w5.frozen? ⟨w.heap.size + 1, i, none⟩ = false := fun i => HL5.out.fz (g := w.heap.size + 1) (cs := flL (0, 0)) (ty := 32) (by simp) i
    go_wp2
    refine bodyPost_ret (v := flV (0, 0)) ?_ rfl ?_
    · simp only [results, hres]
      unfold flV
      simp only
      go_simp
    · show TPost _ _ _ _ _ _
      rw [HX2.out]
      have hoff := (HL5.out.loc (w.heap.size + 1, flL (0, 0), 32) (by simp)).1.off
      exact ⟨rfl, (HL5.out.fr.setCell (.inr (by omega)) _ _).setCell (.inr (by omega)) _ _, O2, s2, HL5.out.new, ck_set (ck_set (HL5.out.ck _ rfl).1 hoff _ _) hoff _ _⟩

end Go.Proofs.YtlaodgdlkkmmeaaGreat
namespace Go.Proofs.YtlaodgdlkkmmeaaGreat
open Go.RowKit Go.Deep Go.Maps

theorem LS.putB {w W : World} {O0 O : Nat → Prop} {b : Nat} {s0 s : Sl} {c c' : Ck} {L : List Lo} {i : Nat} {u : Value} (h : LS w O0 O b s0 s (some c) L W) (hc : (ckCells c s).setIfInBounds i u = ckCells c' s) (h1 : c'.defs = c.defs) (h2 : c'.subst = c.subst) (h3 : c'.pieces = c.pieces) (h4 : c'.values = c.values) (h5 : c'.names = c.names) (hok : CkOk c') :
    LS w O0 O b s0 s (some c') L (W.setCell ⟨b, i, none⟩ u) := by
  obtain ⟨a1, a2, a3⟩ := h.ck c rfl
  refine ⟨fun c2 hc2 => by cases hc2; exact ⟨a1.put hc h1 h2 h3 h4 h5, hok, a3⟩, h.fr.setCell (h.new b a1.inB) i u, h.new, fun g hg => by have := h.tight g hg; simpa [World.setCell] using this, fun x hx => ⟨(h.loc x hx).1.other (fun e => (h.loc x hx).1.off (by rw [e]; exact a1.inB)) i u, (h.loc x hx).2⟩, h.nd⟩
set_option maxRecDepth 20000 in
theorem storeI_step {o : Oper} {y : Nat → Option Bool} {a : Act} {w : World} {K : Act → World → Prop} {Q : Exit → Act → World → Prop} {p q g i : Nat} {u : Int} {u0 : Value} (h1 : o.op = .store 3 (.tmp p) (.tmp q)) (h2 : o.dst = none) (h3 : o.guard = none)
    (e1 : a.tmps[p]?.getD undef = .pointer (some ⟨g, i, none⟩)) (e2 : a.tmps[q]?.getD undef = .int .i64 u) (hc : w.cell? ⟨g, i, none⟩ = some u0) (hf : w.frozen? ⟨g, i, none⟩ = false)
    (h : ∀ V, V = w.setCell ⟨g, i, none⟩ (.int .i64 u) → K a V) :
    if Region.wanted o y = true then Oper.wp Tryz.prog o a w K Q else K (a.put o.dst undef) w := by
  obtain ⟨dst, op, type, pos, after, guard⟩ := o
  simp only at h1 h2 h3
  subst h1 h2 h3
  have := h _ rfl
  clear h
  go_simp
  exact this
set_option maxRecDepth 20000 in
theorem storeB_step {o : Oper} {y : Nat → Option Bool} {a : Act} {w : World} {K : Act → World → Prop} {Q : Exit → Act → World → Prop} {p g i : Nat} {t : Bool} {u0 : Value} (h1 : o.op = .store 4 (.tmp p) (.const (.bool t))) (h2 : o.dst = none) (h3 : o.guard = none)
    (e1 : a.tmps[p]?.getD undef = .pointer (some ⟨g, i, none⟩)) (hc : w.cell? ⟨g, i, none⟩ = some u0) (hf : w.frozen? ⟨g, i, none⟩ = false)
    (h : ∀ V, V = w.setCell ⟨g, i, none⟩ (.bool t) → K a V) :
    if Region.wanted o y = true then Oper.wp Tryz.prog o a w K Q else K (a.put o.dst undef) w := by
  obtain ⟨dst, op, type, pos, after, guard⟩ := o
  simp only at h1 h2 h3
  subst h1 h2 h3
  have := h _ rfl
  clear h
  go_simp
  exact this
def band2 (p : Int) : Er (Ck × Mn) → Er Ck
  | .error f => .error f
  | .ok (c2, m2) => .ok { c2 with banded := true, lo := p, hi := m2.place }
set_option maxRecDepth 20000 in
set_option maxHeartbeats 8000000 in
theorem band_calls {B : Nat} {O : Nat → Prop} {b : Nat} {s : Sl} {c : Ck} (h : Hd) (k : Fo) (ka : Option Addr) (kn kc : Nat) (h2 : Hd) (k2 : Fo) (la : Option Addr) (ln lc : Nat) (w : World) (hck : CkAt O b s c w) (hok : CkOk c) (hlow : ∀ g, O g → B ≤ g) (hB : B ≤ w.heap.size)
    (hE : ExAt false (fun g => g < B) w (h, k) ka kn) (hr : okE h k) (hE2 : ExAt false (fun g => g < B) w (h2, k2) la ln) (hr2 : okE h2 k2) :
    Calls Tryz.prog 55 #[.pointer (some ⟨b, 0, none⟩), exV h ka kn kc, exV h2 la ln lc] w (TPost O b w (bandB c (h, k) (h2, k2))) := by
  have hres : Tryz.f55.results = #[.cell 6 32] := by kernel_rfl
  have hS1 := LS.start3 hck hok h ka kn kc h2 la ln lc
  obtain ⟨r1, hr1⟩ : ∃ r, r = askQ (numFrom (-72057594037927936)) c (h, k) := ⟨_, rfl⟩
  have HA1 : Hid (∀ O' s' L W g, LS w O O' b s s' (some c) L W → (g, [.int .i64 (-72057594037927936)], 3) ∈ L → Calls Tryz.prog 89 #[.pointer (some ⟨b, 0, none⟩), .agg #[.int .i64 h.kind, .int .i64 h.num, .string (bs h.text), .slice ka kn kc, .int .i64 h.pl], .func (.func 126) #[] #[.pointer (some ⟨g, 0, none⟩)]] W fun e w' => ∃ mt mx mp mn f1 f2, e = .returned (.tuple #[.agg #[.bool mt, .string mx, .int .i64 mp, .int .i64 mn], .agg #[.int .i64 f1, .int .i64 f2]]) ∧ Hid (∃ m oc O2 s2, (m.isText = mt ∧ bs m.text = mx ∧ m.place = mp ∧ m.num = mn) ∧ RQ r1 m (f1, f2) oc ∧ LS w O O2 b s s2 oc L w')) := by
    intro O' s' L W g h1' h2'
    refine (h1'.askNum h k ka kn kc (-72057594037927936) g h2' hlow hB hE hr).mono ?_
    rintro e w' ⟨m, f, oc, O2, s2, rfl, h3⟩
    exact ⟨_, _, _, _, _, _, rfl, m, oc, O2, s2, ⟨rfl, rfl, rfl, rfl⟩, by rw [hr1]; exact h3.out.1, h3.out.2⟩
  have HA2 : Hid (∀ c1 q1, ∀ O' s' L W g, LS w O O' b s s' (some c1) L W → (g, [.int .i64 q1], 3) ∈ L → Calls Tryz.prog 89 #[.pointer (some ⟨b, 0, none⟩), .agg #[.int .i64 h2.kind, .int .i64 h2.num, .string (bs h2.text), .slice la ln lc, .int .i64 h2.pl], .func (.func 126) #[] #[.pointer (some ⟨g, 0, none⟩)]] W fun e w' => ∃ mt mx mp mn f1 f2, e = .returned (.tuple #[.agg #[.bool mt, .string mx, .int .i64 mp, .int .i64 mn], .agg #[.int .i64 f1, .int .i64 f2]]) ∧ Hid (∃ m oc O2 s2, (m.isText = mt ∧ bs m.text = mx ∧ m.place = mp ∧ m.num = mn) ∧ RQ (askQ (numFrom q1) c1 (h2, k2)) m (f1, f2) oc ∧ LS w O O2 b s s2 oc L w')) := by
    intro c1 q1 O' s' L W g h1' h2'
    refine (h1'.askNum h2 k2 la ln lc q1 g h2' hlow hB hE2 hr2).mono ?_
    rintro e w' ⟨m, f, oc, O2, s2, rfl, h3⟩
    exact ⟨_, _, _, _, _, _, rfl, m, oc, O2, s2, ⟨rfl, rfl, rfl, rfl⟩, h3.out.1, h3.out.2⟩
  have HSS : Hid (∀ O' s' oc L W, LS w O O' b s s' oc L W → (w.heap.size, exL h ka kn kc, 102) ∈ L → W.cell? ⟨w.heap.size, 0, none⟩ = some (.int .i64 h.kind) ∧ W.cell? ⟨w.heap.size, 1, none⟩ = some (.int .i64 h.num) ∧ W.cell? ⟨w.heap.size, 2, none⟩ = some (.string (bs h.text)) ∧ W.cell? ⟨w.heap.size, 3, none⟩ = some (.slice ka kn kc) ∧ W.cell? ⟨w.heap.size, 4, none⟩ = some (.int .i64 h.pl)) := fun O' s' oc L W h1 h2 => ⟨h1.at h2 rfl, h1.at h2 rfl, h1.at h2 rfl, h1.at h2 rfl, h1.at h2 rfl⟩
  have HX : Hid (bandB c (h, k) (h2, k2) = match r1 with | .error f => .error f | .ok (c1, m1) => band2 m1.place (askQ (numFrom m1.num) c1 (h2, k2))) := by show _ = _; rw [hr1]; rfl
  generalize hO1 : (fun g => O g ∧ g < w.heap.size) = O1 at hS1
  clear hO1 hck hok hlow hB hE hr hE2 hr2 hr1
  unfold exV
  have HS1 : Hid (LS w O O1 b s s (some c) [(w.heap.size + 1 + 1, flL (0, 0), 32), (w.heap.size + 1, exL h2 la ln lc, 102), (w.heap.size, exL h ka kn kc, 102)] (((w.alloc (.cells #[.int .i64 h.kind, .int .i64 h.num, .string (bs h.text), .slice ka kn kc, .int .i64 h.pl] 102)).alloc (.cells #[.int .i64 h2.kind, .int .i64 h2.num, .string (bs h2.text), .slice la ln lc, .int .i64 h2.pl] 102)).alloc (.cells #[.int .i64 0, .int .i64 0] 32))) := hS1
  clear hS1
  go_enter Tryz.func55, Tryz.ntmps55
  go_upto_region 1 with (fail)
  generalize (((w.alloc (.cells #[.int .i64 h.kind, .int .i64 h.num, .string (bs h.text), .slice ka kn kc, .int .i64 h.pl] 102)).alloc (.cells #[.int .i64 h2.kind, .int .i64 h2.num, .string (bs h2.text), .slice la ln lc, .int .i64 h2.pl] 102)).alloc (.cells #[.int .i64 0, .int .i64 0] 32)) = w1 at *
  have HS0 : Hid (LS w O O1 b s s (some c) [(w.heap.size + 1 + 1, flL (0, 0), 32), (w.heap.size + 1, exL h2 la ln lc, 102), (w.heap.size, exL h ka kn kc, 102)] w1.drew) := HS1.out.drew
  clear HS1
  go_cut [7, 8] (fun mv fv wc => ∃ g7 g8 mt mx mp mn f1 f2, mv = .pointer (some ⟨g7, 0, none⟩) ∧ fv = .pointer (some ⟨g8, 0, none⟩) ∧ AR r1 w O b s mt mx mp mn f1 f2 (fun m => [(g7, mnL m, 109), (g8, flL (f1, f2), 32), (w.heap.size + 1 + 1, flL (0, 0), 32), (w.heap.size + 1, exL h2 la ln lc, 102), (w.heap.size, exL h ka kn kc, 102)]) wc)
  case first =>
    refine wp_region_Y (fun j => [].contains j) (fun W => W.cell? ⟨w.heap.size, 0, none⟩ = some (.int .i64 h.kind) ∧ W.cell? ⟨w.heap.size, 1, none⟩ = some (.int .i64 h.num) ∧ W.cell? ⟨w.heap.size, 2, none⟩ = some (.string (bs h.text)) ∧ W.cell? ⟨w.heap.size, 3, none⟩ = some (.slice ka kn kc) ∧ W.cell? ⟨w.heap.size, 4, none⟩ = some (.int .i64 h.pl)) (by kernel_rfl) ?_
    refine wpAnyY_takeD (i := 0) 11 (v := .pointer (some ⟨b, 0, none⟩)) rfl rfl (by kernel_rfl) (by kernel_rfl) (late_of (by kernel_rfl)) (by kernel_rfl) (by kernel_rfl) (fun _ _ _ h => h) (HSS.out _ _ _ _ _ HS0.out (by simp)) (Or.inl ⟨by rfl, by (intro W hW; obtain ⟨_, _, _, _, _⟩ := hW; go_simp)⟩) ?_
    simp only [Act.put, List.setIfInBounds_toArray, List.set_cons_succ, List.set_cons_zero]
    refine wpAnyY_takeD (i := 1) 12 (v := .agg #[.int .i64 h.kind, .int .i64 h.num, .string (bs h.text), .slice ka kn kc, .int .i64 h.pl]) rfl rfl (by kernel_rfl) (by kernel_rfl) (late_of (by kernel_rfl)) (by kernel_rfl) (by kernel_rfl) (fun _ _ _ h => h) (HSS.out _ _ _ _ _ HS0.out (by simp)) (Or.inl ⟨by rfl, by (intro W hW; obtain ⟨_, _, _, _, _⟩ := hW; go_simp)⟩) ?_
    simp only [Act.put, List.setIfInBounds_toArray, List.set_cons_succ, List.set_cons_zero]
    refine wpAnyY_three (i := 2) (j := 7) (l := 8) rfl rfl rfl (by kernel_rfl) (fun K hK => ?_) (fun K hK => ?_) (fun K hK => ?_)
    · refine call95c_step rfl rfl rfl ?_
      intro V1 gc hV hG
      have HS2 : Hid (LS w O O1 b s s (some c) [(gc, [.int .i64 (-72057594037927936)], 3), (w.heap.size + 1 + 1, flL (0, 0), 32), (w.heap.size + 1, exL h2 la ln lc, 102), (w.heap.size, exL h ka kn kc, 102)] V1) := HS0.out.allocE _ 3 hV hG
      refine hK.out _ _ (fun _ => HSS.out _ _ _ _ _ HS2.out (by simp)) ?_
      clear hK K HS0 hV hG
      simp only [Act.put, List.setIfInBounds_toArray, List.set_cons_succ, List.set_cons_zero]
      refine wpAnyY_three (i := 3) (j := 7) (l := 8) rfl rfl rfl (by kernel_rfl) (fun K hK => ?_) (fun K hK => ?_) (fun K hK => ?_)
      · refine call89_step rfl rfl rfl rfl rfl rfl ?_
        refine (HA1.out _ _ _ _ gc HS2.out (by simp)).mono ?_
        rintro e V3 ⟨mt, mx, mp, mn, f1, f2, rfl, hV⟩
        refine ⟨_, rfl, ?_⟩
        obtain ⟨m, oc, O2, s2, hm, hRQ, hLS⟩ := hV.out
        have HS4 : Hid (LS w O O2 b s s2 oc [(gc, [.int .i64 (-72057594037927936)], 3), (w.heap.size + 1 + 1, flL (0, 0), 32), (w.heap.size + 1, exL h2 la ln lc, 102), (w.heap.size, exL h ka kn kc, 102)] V3) := hLS
        have HR : Hid (RQ r1 m (f1, f2) oc ∧ m.isText = mt ∧ bs m.text = mx ∧ m.place = mp ∧ m.num = mn) := ⟨hRQ, hm⟩
        refine hK.out _ _ (fun _ => HSS.out _ _ _ _ _ HS4.out (by simp)) ?_
        clear hK K HS2 hV hm hRQ hLS
        simp only [Act.put, List.setIfInBounds_toArray, List.set_cons_succ, List.set_cons_zero]
        refine wpAnyY_takeD (i := 4) 10 (v := .tuple #[.agg #[.bool mt, .string mx, .int .i64 mp, .int .i64 mn], .agg #[.int .i64 f1, .int .i64 f2]]) rfl rfl (by kernel_rfl) (by kernel_rfl) (late_of (by kernel_rfl)) (by kernel_rfl) (by kernel_rfl) (fun _ _ _ h => h) (HSS.out _ _ _ _ _ HS4.out (by simp)) (Or.inl ⟨by rfl, by (intro W hW; obtain ⟨_, _, _, _, _⟩ := hW; go_simp)⟩) ?_
        simp only [Act.put, List.setIfInBounds_toArray, List.set_cons_succ, List.set_cons_zero]
        refine wpAnyY_takeD (i := 5) 15 (v := .agg #[.bool mt, .string mx, .int .i64 mp, .int .i64 mn]) rfl rfl (by kernel_rfl) (by kernel_rfl) (late_of (by kernel_rfl)) (by kernel_rfl) (by kernel_rfl) (fun _ _ _ h => h) (HSS.out _ _ _ _ _ HS4.out (by simp)) (Or.inl ⟨by rfl, by (intro W hW; obtain ⟨_, _, _, _, _⟩ := hW; go_simp)⟩) ?_
        simp only [Act.put, List.setIfInBounds_toArray, List.set_cons_succ, List.set_cons_zero]
        refine wpAnyY_takeD (i := 6) 16 (v := .agg #[.int .i64 f1, .int .i64 f2]) rfl rfl (by kernel_rfl) (by kernel_rfl) (late_of (by kernel_rfl)) (by kernel_rfl) (by kernel_rfl) (fun _ _ _ h => h) (HSS.out _ _ _ _ _ HS4.out (by simp)) (Or.inl ⟨by rfl, by (intro W hW; obtain ⟨_, _, _, _, _⟩ := hW; go_simp)⟩) ?_
        simp only [Act.put, List.setIfInBounds_toArray, List.set_cons_succ, List.set_cons_zero]
        refine wpAnyY_two (i := 7) (j := 8) rfl rfl (by kernel_rfl) (fun K hK => ?_) (fun K hK => ?_)
        · refine alloc109_step rfl rfl rfl ?_
          intro V5 g7 hV hG
          have HS6 : Hid (LS w O O2 b s s2 oc [(g7, mnL mn0, 109), (gc, [.int .i64 (-72057594037927936)], 3), (w.heap.size + 1 + 1, flL (0, 0), 32), (w.heap.size + 1, exL h2 la ln lc, 102), (w.heap.size, exL h ka kn kc, 102)] V5) := HS4.out.allocE (mnL mn0) 109 hV hG
          refine hK.out _ _ (fun _ => HSS.out _ _ _ _ _ HS6.out (by simp)) ?_
          clear hK K HS4 hV hG
          simp only [Act.put, List.setIfInBounds_toArray, List.set_cons_succ, List.set_cons_zero]
          refine wpAnyY_one (i := 8) rfl (by kernel_rfl) (fun K hK => ?_)
          refine alloc32_step rfl rfl rfl ?_
          intro V7 g8 hV hG
          have HS8 : Hid (LS w O O2 b s s2 oc [(g8, flL (0, 0), 32), (g7, mnL mn0, 109), (gc, [.int .i64 (-72057594037927936)], 3), (w.heap.size + 1 + 1, flL (0, 0), 32), (w.heap.size + 1, exL h2 la ln lc, 102), (w.heap.size, exL h ka kn kc, 102)] V7) := HS6.out.allocE (flL (0, 0)) 32 hV hG
          refine hK.out _ _ (fun _ => HSS.out _ _ _ _ _ HS8.out (by simp)) ?_
          clear hK K HS6 hV hG
          simp only [Act.put, List.setIfInBounds_toArray, List.set_cons_succ, List.set_cons_zero]
          refine wpAnyY_one (i := 9) rfl (by kernel_rfl) (fun K hK => ?_)
          have HF11 : Hid (LS w O O2 b s s2 oc [(g7, mnL mn0, 109), (g8, flL (0, 0), 32), (gc, [.int .i64 (-72057594037927936)], 3), (w.heap.size + 1 + 1, flL (0, 0), 32), (w.heap.size + 1, exL h2 la ln lc, 102), (w.heap.size, exL h ka kn kc, 102)] V7) := HS8.out.front (L1 := [(g8, flL (0, 0), 32)]) (L2 := [(gc, [.int .i64 (-72057594037927936)], 3), (w.heap.size + 1 + 1, flL (0, 0), 32), (w.heap.size + 1, exL h2 la ln lc, 102), (w.heap.size, exL h ka kn kc, 102)]) rfl
          refine store109_step rfl rfl rfl rfl rfl (HF11.out.blk (List.mem_cons_self ..)) ?_
          intro V9 hV
          have HS10 : Hid (LS w O O2 b s s2 oc [(g7, mnL m, 109), (g8, flL (0, 0), 32), (gc, [.int .i64 (-72057594037927936)], 3), (w.heap.size + 1 + 1, flL (0, 0), 32), (w.heap.size + 1, exL h2 la ln lc, 102), (w.heap.size, exL h ka kn kc, 102)] V9) := HF11.out.store109 m HR.out.2.2.1.symm (by rw [hV, HR.out.2.1, HR.out.2.2.2.1, HR.out.2.2.2.2])
          refine hK.out _ _ (fun _ => HSS.out _ _ _ _ _ HS10.out (by simp)) ?_
          clear hK K HS8 hV HF11
          refine wpAnyY_one (i := 10) rfl (by kernel_rfl) (fun K hK => ?_)
          have HF14 : Hid (LS w O O2 b s s2 oc [(g8, flL (0, 0), 32), (g7, mnL m, 109), (gc, [.int .i64 (-72057594037927936)], 3), (w.heap.size + 1 + 1, flL (0, 0), 32), (w.heap.size + 1, exL h2 la ln lc, 102), (w.heap.size, exL h ka kn kc, 102)] V9) := HS10.out.front (L1 := [(g7, mnL m, 109)]) (L2 := [(gc, [.int .i64 (-72057594037927936)], 3), (w.heap.size + 1 + 1, flL (0, 0), 32), (w.heap.size + 1, exL h2 la ln lc, 102), (w.heap.size, exL h ka kn kc, 102)]) rfl
          refine store32_step rfl rfl rfl rfl rfl (HF14.out.blk (List.mem_cons_self ..)) ?_
          intro V12 hV
          have HS13 : Hid (LS w O O2 b s s2 oc [(g8, flL (f1, f2), 32), (g7, mnL m, 109), (gc, [.int .i64 (-72057594037927936)], 3), (w.heap.size + 1 + 1, flL (0, 0), 32), (w.heap.size + 1, exL h2 la ln lc, 102), (w.heap.size, exL h ka kn kc, 102)] V12) := HF14.out.store32 (f1, f2) hV
          refine hK.out _ _ (fun _ => HSS.out _ _ _ _ _ HS13.out (by simp)) ?_
          clear hK K HS10 hV HF14
          refine wpAnyY_done (by kernel_rfl) ?_ _
          go_wp2_with fail
          go_meet
          exact ⟨g7, g8, mt, mx, mp, mn, f1, f2, rfl, rfl, m, oc, O2, s2, HR.out, HS13.out.sub (by simp) (by have := HS13.out.nd; simp at this ⊢; omega)⟩
        · refine alloc32_step rfl rfl rfl ?_
          intro V15 g8 hV hG
          have HS16 : Hid (LS w O O2 b s s2 oc [(g8, flL (0, 0), 32), (gc, [.int .i64 (-72057594037927936)], 3), (w.heap.size + 1 + 1, flL (0, 0), 32), (w.heap.size + 1, exL h2 la ln lc, 102), (w.heap.size, exL h ka kn kc, 102)] V15) := HS4.out.allocE (flL (0, 0)) 32 hV hG
          refine hK.out _ _ (fun _ => HSS.out _ _ _ _ _ HS16.out (by simp)) ?_
          clear hK K HS4 hV hG
          simp only [Act.put, List.setIfInBounds_toArray, List.set_cons_succ, List.set_cons_zero]
          refine wpAnyY_one (i := 7) rfl (by kernel_rfl) (fun K hK => ?_)
          refine alloc109_step rfl rfl rfl ?_
          intro V17 g7 hV hG
          have HS18 : Hid (LS w O O2 b s s2 oc [(g7, mnL mn0, 109), (g8, flL (0, 0), 32), (gc, [.int .i64 (-72057594037927936)], 3), (w.heap.size + 1 + 1, flL (0, 0), 32), (w.heap.size + 1, exL h2 la ln lc, 102), (w.heap.size, exL h ka kn kc, 102)] V17) := HS16.out.allocE (mnL mn0) 109 hV hG
          refine hK.out _ _ (fun _ => HSS.out _ _ _ _ _ HS18.out (by simp)) ?_
          clear hK K HS16 hV hG
          simp only [Act.put, List.setIfInBounds_toArray, List.set_cons_succ, List.set_cons_zero]
          refine wpAnyY_one (i := 9) rfl (by kernel_rfl) (fun K hK => ?_)
          have HF21 : Hid (LS w O O2 b s s2 oc [(g7, mnL mn0, 109), (g8, flL (0, 0), 32), (gc, [.int .i64 (-72057594037927936)], 3), (w.heap.size + 1 + 1, flL (0, 0), 32), (w.heap.size + 1, exL h2 la ln lc, 102), (w.heap.size, exL h ka kn kc, 102)] V17) := HS18.out.front (L1 := []) (L2 := [(g8, flL (0, 0), 32), (gc, [.int .i64 (-72057594037927936)], 3), (w.heap.size + 1 + 1, flL (0, 0), 32), (w.heap.size + 1, exL h2 la ln lc, 102), (w.heap.size, exL h ka kn kc, 102)]) rfl
          refine store109_step rfl rfl rfl rfl rfl (HF21.out.blk (List.mem_cons_self ..)) ?_
          intro V19 hV
          have HS20 : Hid (LS w O O2 b s s2 oc [(g7, mnL m, 109), (g8, flL (0, 0), 32), (gc, [.int .i64 (-72057594037927936)], 3), (w.heap.size + 1 + 1, flL (0, 0), 32), (w.heap.size + 1, exL h2 la ln lc, 102), (w.heap.size, exL h ka kn kc, 102)] V19) := HF21.out.store109 m HR.out.2.2.1.symm (by rw [hV, HR.out.2.1, HR.out.2.2.2.1, HR.out.2.2.2.2])
          refine hK.out _ _ (fun _ => HSS.out _ _ _ _ _ HS20.out (by simp)) ?_
          clear hK K HS18 hV HF21
          refine wpAnyY_one (i := 10) rfl (by kernel_rfl) (fun K hK => ?_)
          have HF24 : Hid (LS w O O2 b s s2 oc [(g8, flL (0, 0), 32), (g7, mnL m, 109), (gc, [.int .i64 (-72057594037927936)], 3), (w.heap.size + 1 + 1, flL (0, 0), 32), (w.heap.size + 1, exL h2 la ln lc, 102), (w.heap.size, exL h ka kn kc, 102)] V19) := HS20.out.front (L1 := [(g7, mnL m, 109)]) (L2 := [(gc, [.int .i64 (-72057594037927936)], 3), (w.heap.size + 1 + 1, flL (0, 0), 32), (w.heap.size + 1, exL h2 la ln lc, 102), (w.heap.size, exL h ka kn kc, 102)]) rfl
          refine store32_step rfl rfl rfl rfl rfl (HF24.out.blk (List.mem_cons_self ..)) ?_
          intro V22 hV
          have HS23 : Hid (LS w O O2 b s s2 oc [(g8, flL (f1, f2), 32), (g7, mnL m, 109), (gc, [.int .i64 (-72057594037927936)], 3), (w.heap.size + 1 + 1, flL (0, 0), 32), (w.heap.size + 1, exL h2 la ln lc, 102), (w.heap.size, exL h ka kn kc, 102)] V22) := HF24.out.store32 (f1, f2) hV
          refine hK.out _ _ (fun _ => HSS.out _ _ _ _ _ HS23.out (by simp)) ?_
          clear hK K HS20 hV HF24
          refine wpAnyY_done (by kernel_rfl) ?_ _
          go_wp2_with fail
          go_meet
          exact ⟨g7, g8, mt, mx, mp, mn, f1, f2, rfl, rfl, m, oc, O2, s2, HR.out, HS23.out.sub (by simp) (by have := HS23.out.nd; simp at this ⊢; omega)⟩
      · refine alloc109_step rfl rfl rfl ?_
        intro V25 g7 hV hG
        have HS26 : Hid (LS w O O1 b s s (some c) [(g7, mnL mn0, 109), (gc, [.int .i64 (-72057594037927936)], 3), (w.heap.size + 1 + 1, flL (0, 0), 32), (w.heap.size + 1, exL h2 la ln lc, 102), (w.heap.size, exL h ka kn kc, 102)] V25) := HS2.out.allocE (mnL mn0) 109 hV hG
        refine hK.out _ _ (fun _ => HSS.out _ _ _ _ _ HS26.out (by simp)) ?_
        clear hK K HS2 hV hG
        simp only [Act.put, List.setIfInBounds_toArray, List.set_cons_succ, List.set_cons_zero]
        refine wpAnyY_two (i := 3) (j := 8) rfl rfl (by kernel_rfl) (fun K hK => ?_) (fun K hK => ?_)
        · refine call89_step rfl rfl rfl rfl rfl rfl ?_
          refine (HA1.out _ _ _ _ gc HS26.out (by simp)).mono ?_
          rintro e V27 ⟨mt, mx, mp, mn, f1, f2, rfl, hV⟩
          refine ⟨_, rfl, ?_⟩
          obtain ⟨m, oc, O2, s2, hm, hRQ, hLS⟩ := hV.out
          have HS28 : Hid (LS w O O2 b s s2 oc [(g7, mnL mn0, 109), (gc, [.int .i64 (-72057594037927936)], 3), (w.heap.size + 1 + 1, flL (0, 0), 32), (w.heap.size + 1, exL h2 la ln lc, 102), (w.heap.size, exL h ka kn kc, 102)] V27) := hLS
          have HR : Hid (RQ r1 m (f1, f2) oc ∧ m.isText = mt ∧ bs m.text = mx ∧ m.place = mp ∧ m.num = mn) := ⟨hRQ, hm⟩
          refine hK.out _ _ (fun _ => HSS.out _ _ _ _ _ HS28.out (by simp)) ?_
          clear hK K HS26 hV hm hRQ hLS
          simp only [Act.put, List.setIfInBounds_toArray, List.set_cons_succ, List.set_cons_zero]
          refine wpAnyY_takeD (i := 4) 10 (v := .tuple #[.agg #[.bool mt, .string mx, .int .i64 mp, .int .i64 mn], .agg #[.int .i64 f1, .int .i64 f2]]) rfl rfl (by kernel_rfl) (by kernel_rfl) (late_of (by kernel_rfl)) (by kernel_rfl) (by kernel_rfl) (fun _ _ _ h => h) (HSS.out _ _ _ _ _ HS28.out (by simp)) (Or.inl ⟨by rfl, by (intro W hW; obtain ⟨_, _, _, _, _⟩ := hW; go_simp)⟩) ?_
          simp only [Act.put, List.setIfInBounds_toArray, List.set_cons_succ, List.set_cons_zero]
          refine wpAnyY_takeD (i := 5) 15 (v := .agg #[.bool mt, .string mx, .int .i64 mp, .int .i64 mn]) rfl rfl (by kernel_rfl) (by kernel_rfl) (late_of (by kernel_rfl)) (by kernel_rfl) (by kernel_rfl) (fun _ _ _ h => h) (HSS.out _ _ _ _ _ HS28.out (by simp)) (Or.inl ⟨by rfl, by (intro W hW; obtain ⟨_, _, _, _, _⟩ := hW; go_simp)⟩) ?_
          simp only [Act.put, List.setIfInBounds_toArray, List.set_cons_succ, List.set_cons_zero]
          refine wpAnyY_takeD (i := 6) 16 (v := .agg #[.int .i64 f1, .int .i64 f2]) rfl rfl (by kernel_rfl) (by kernel_rfl) (late_of (by kernel_rfl)) (by kernel_rfl) (by kernel_rfl) (fun _ _ _ h => h) (HSS.out _ _ _ _ _ HS28.out (by simp)) (Or.inl ⟨by rfl, by (intro W hW; obtain ⟨_, _, _, _, _⟩ := hW; go_simp)⟩) ?_
          simp only [Act.put, List.setIfInBounds_toArray, List.set_cons_succ, List.set_cons_zero]
          refine wpAnyY_one (i := 8) rfl (by kernel_rfl) (fun K hK => ?_)
          refine alloc32_step rfl rfl rfl ?_
          intro V29 g8 hV hG
          have HS30 : Hid (LS w O O2 b s s2 oc [(g8, flL (0, 0), 32), (g7, mnL mn0, 109), (gc, [.int .i64 (-72057594037927936)], 3), (w.heap.size + 1 + 1, flL (0, 0), 32), (w.heap.size + 1, exL h2 la ln lc, 102), (w.heap.size, exL h ka kn kc, 102)] V29) := HS28.out.allocE (flL (0, 0)) 32 hV hG
          refine hK.out _ _ (fun _ => HSS.out _ _ _ _ _ HS30.out (by simp)) ?_
          clear hK K HS28 hV hG
          simp only [Act.put, List.setIfInBounds_toArray, List.set_cons_succ, List.set_cons_zero]
          refine wpAnyY_one (i := 9) rfl (by kernel_rfl) (fun K hK => ?_)
          have HF33 : Hid (LS w O O2 b s s2 oc [(g7, mnL mn0, 109), (g8, flL (0, 0), 32), (gc, [.int .i64 (-72057594037927936)], 3), (w.heap.size + 1 + 1, flL (0, 0), 32), (w.heap.size + 1, exL h2 la ln lc, 102), (w.heap.size, exL h ka kn kc, 102)] V29) := HS30.out.front (L1 := [(g8, flL (0, 0), 32)]) (L2 := [(gc, [.int .i64 (-72057594037927936)], 3), (w.heap.size + 1 + 1, flL (0, 0), 32), (w.heap.size + 1, exL h2 la ln lc, 102), (w.heap.size, exL h ka kn kc, 102)]) rfl
          refine store109_step rfl rfl rfl rfl rfl (HF33.out.blk (List.mem_cons_self ..)) ?_
          intro V31 hV
          have HS32 : Hid (LS w O O2 b s s2 oc [(g7, mnL m, 109), (g8, flL (0, 0), 32), (gc, [.int .i64 (-72057594037927936)], 3), (w.heap.size + 1 + 1, flL (0, 0), 32), (w.heap.size + 1, exL h2 la ln lc, 102), (w.heap.size, exL h ka kn kc, 102)] V31) := HF33.out.store109 m HR.out.2.2.1.symm (by rw [hV, HR.out.2.1, HR.out.2.2.2.1, HR.out.2.2.2.2])
          refine hK.out _ _ (fun _ => HSS.out _ _ _ _ _ HS32.out (by simp)) ?_
          clear hK K HS30 hV HF33
          refine wpAnyY_one (i := 10) rfl (by kernel_rfl) (fun K hK => ?_)
          have HF36 : Hid (LS w O O2 b s s2 oc [(g8, flL (0, 0), 32), (g7, mnL m, 109), (gc, [.int .i64 (-72057594037927936)], 3), (w.heap.size + 1 + 1, flL (0, 0), 32), (w.heap.size + 1, exL h2 la ln lc, 102), (w.heap.size, exL h ka kn kc, 102)] V31) := HS32.out.front (L1 := [(g7, mnL m, 109)]) (L2 := [(gc, [.int .i64 (-72057594037927936)], 3), (w.heap.size + 1 + 1, flL (0, 0), 32), (w.heap.size + 1, exL h2 la ln lc, 102), (w.heap.size, exL h ka kn kc, 102)]) rfl
          refine store32_step rfl rfl rfl rfl rfl (HF36.out.blk (List.mem_cons_self ..)) ?_
          intro V34 hV
          have HS35 : Hid (LS w O O2 b s s2 oc [(g8, flL (f1, f2), 32), (g7, mnL m, 109), (gc, [.int .i64 (-72057594037927936)], 3), (w.heap.size + 1 + 1, flL (0, 0), 32), (w.heap.size + 1, exL h2 la ln lc, 102), (w.heap.size, exL h ka kn kc, 102)] V34) := HF36.out.store32 (f1, f2) hV
          refine hK.out _ _ (fun _ => HSS.out _ _ _ _ _ HS35.out (by simp)) ?_
          clear hK K HS32 hV HF36
          refine wpAnyY_done (by kernel_rfl) ?_ _
          go_wp2_with fail
          go_meet
          exact ⟨g7, g8, mt, mx, mp, mn, f1, f2, rfl, rfl, m, oc, O2, s2, HR.out, HS35.out.sub (by simp) (by have := HS35.out.nd; simp at this ⊢; omega)⟩
        · refine alloc32_step rfl rfl rfl ?_
          intro V37 g8 hV hG
          have HS38 : Hid (LS w O O1 b s s (some c) [(g8, flL (0, 0), 32), (g7, mnL mn0, 109), (gc, [.int .i64 (-72057594037927936)], 3), (w.heap.size + 1 + 1, flL (0, 0), 32), (w.heap.size + 1, exL h2 la ln lc, 102), (w.heap.size, exL h ka kn kc, 102)] V37) := HS26.out.allocE (flL (0, 0)) 32 hV hG
          refine hK.out _ _ (fun _ => HSS.out _ _ _ _ _ HS38.out (by simp)) ?_
          clear hK K HS26 hV hG
          simp only [Act.put, List.setIfInBounds_toArray, List.set_cons_succ, List.set_cons_zero]
          refine wpAnyY_one (i := 3) rfl (by kernel_rfl) (fun K hK => ?_)
          refine call89_step rfl rfl rfl rfl rfl rfl ?_
          refine (HA1.out _ _ _ _ gc HS38.out (by simp)).mono ?_
          rintro e V39 ⟨mt, mx, mp, mn, f1, f2, rfl, hV⟩
          refine ⟨_, rfl, ?_⟩
          obtain ⟨m, oc, O2, s2, hm, hRQ, hLS⟩ := hV.out
          have HS40 : Hid (LS w O O2 b s s2 oc [(g8, flL (0, 0), 32), (g7, mnL mn0, 109), (gc, [.int .i64 (-72057594037927936)], 3), (w.heap.size + 1 + 1, flL (0, 0), 32), (w.heap.size + 1, exL h2 la ln lc, 102), (w.heap.size, exL h ka kn kc, 102)] V39) := hLS
          have HR : Hid (RQ r1 m (f1, f2) oc ∧ m.isText = mt ∧ bs m.text = mx ∧ m.place = mp ∧ m.num = mn) := ⟨hRQ, hm⟩
          refine hK.out _ _ (fun _ => HSS.out _ _ _ _ _ HS40.out (by simp)) ?_
          clear hK K HS38 hV hm hRQ hLS
          simp only [Act.put, List.setIfInBounds_toArray, List.set_cons_succ, List.set_cons_zero]
          refine wpAnyY_takeD (i := 4) 10 (v := .tuple #[.agg #[.bool mt, .string mx, .int .i64 mp, .int .i64 mn], .agg #[.int .i64 f1, .int .i64 f2]]) rfl rfl (by kernel_rfl) (by kernel_rfl) (late_of (by kernel_rfl)) (by kernel_rfl) (by kernel_rfl) (fun _ _ _ h => h) (HSS.out _ _ _ _ _ HS40.out (by simp)) (Or.inl ⟨by rfl, by (intro W hW; obtain ⟨_, _, _, _, _⟩ := hW; go_simp)⟩) ?_
          simp only [Act.put, List.setIfInBounds_toArray, List.set_cons_succ, List.set_cons_zero]
          refine wpAnyY_takeD (i := 5) 15 (v := .agg #[.bool mt, .string mx, .int .i64 mp, .int .i64 mn]) rfl rfl (by kernel_rfl) (by kernel_rfl) (late_of (by kernel_rfl)) (by kernel_rfl) (by kernel_rfl) (fun _ _ _ h => h) (HSS.out _ _ _ _ _ HS40.out (by simp)) (Or.inl ⟨by rfl, by (intro W hW; obtain ⟨_, _, _, _, _⟩ := hW; go_simp)⟩) ?_
          simp only [Act.put, List.setIfInBounds_toArray, List.set_cons_succ, List.set_cons_zero]
          refine wpAnyY_takeD (i := 6) 16 (v := .agg #[.int .i64 f1, .int .i64 f2]) rfl rfl (by kernel_rfl) (by kernel_rfl) (late_of (by kernel_rfl)) (by kernel_rfl) (by kernel_rfl) (fun _ _ _ h => h) (HSS.out _ _ _ _ _ HS40.out (by simp)) (Or.inl ⟨by rfl, by (intro W hW; obtain ⟨_, _, _, _, _⟩ := hW; go_simp)⟩) ?_
          simp only [Act.put, List.setIfInBounds_toArray, List.set_cons_succ, List.set_cons_zero]
          refine wpAnyY_one (i := 9) rfl (by kernel_rfl) (fun K hK => ?_)
          have HF43 : Hid (LS w O O2 b s s2 oc [(g7, mnL mn0, 109), (g8, flL (0, 0), 32), (gc, [.int .i64 (-72057594037927936)], 3), (w.heap.size + 1 + 1, flL (0, 0), 32), (w.heap.size + 1, exL h2 la ln lc, 102), (w.heap.size, exL h ka kn kc, 102)] V39) := HS40.out.front (L1 := [(g8, flL (0, 0), 32)]) (L2 := [(gc, [.int .i64 (-72057594037927936)], 3), (w.heap.size + 1 + 1, flL (0, 0), 32), (w.heap.size + 1, exL h2 la ln lc, 102), (w.heap.size, exL h ka kn kc, 102)]) rfl
          refine store109_step rfl rfl rfl rfl rfl (HF43.out.blk (List.mem_cons_self ..)) ?_
          intro V41 hV
          have HS42 : Hid (LS w O O2 b s s2 oc [(g7, mnL m, 109), (g8, flL (0, 0), 32), (gc, [.int .i64 (-72057594037927936)], 3), (w.heap.size + 1 + 1, flL (0, 0), 32), (w.heap.size + 1, exL h2 la ln lc, 102), (w.heap.size, exL h ka kn kc, 102)] V41) := HF43.out.store109 m HR.out.2.2.1.symm (by rw [hV, HR.out.2.1, HR.out.2.2.2.1, HR.out.2.2.2.2])
          refine hK.out _ _ (fun _ => HSS.out _ _ _ _ _ HS42.out (by simp)) ?_
          clear hK K HS40 hV HF43
          refine wpAnyY_one (i := 10) rfl (by kernel_rfl) (fun K hK => ?_)
          have HF46 : Hid (LS w O O2 b s s2 oc [(g8, flL (0, 0), 32), (g7, mnL m, 109), (gc, [.int .i64 (-72057594037927936)], 3), (w.heap.size + 1 + 1, flL (0, 0), 32), (w.heap.size + 1, exL h2 la ln lc, 102), (w.heap.size, exL h ka kn kc, 102)] V41) := HS42.out.front (L1 := [(g7, mnL m, 109)]) (L2 := [(gc, [.int .i64 (-72057594037927936)], 3), (w.heap.size + 1 + 1, flL (0, 0), 32), (w.heap.size + 1, exL h2 la ln lc, 102), (w.heap.size, exL h ka kn kc, 102)]) rfl
          refine store32_step rfl rfl rfl rfl rfl (HF46.out.blk (List.mem_cons_self ..)) ?_
          intro V44 hV
          have HS45 : Hid (LS w O O2 b s s2 oc [(g8, flL (f1, f2), 32), (g7, mnL m, 109), (gc, [.int .i64 (-72057594037927936)], 3), (w.heap.size + 1 + 1, flL (0, 0), 32), (w.heap.size + 1, exL h2 la ln lc, 102), (w.heap.size, exL h ka kn kc, 102)] V44) := HF46.out.store32 (f1, f2) hV
          refine hK.out _ _ (fun _ => HSS.out _ _ _ _ _ HS45.out (by simp)) ?_
          clear hK K HS42 hV HF46
          refine wpAnyY_done (by kernel_rfl) ?_ _
          go_wp2_with fail
          go_meet
          exact ⟨g7, g8, mt, mx, mp, mn, f1, f2, rfl, rfl, m, oc, O2, s2, HR.out, HS45.out.sub (by simp) (by have := HS45.out.nd; simp at this ⊢; omega)⟩
      · refine alloc32_step rfl rfl rfl ?_
        intro V47 g8 hV hG
        have HS48 : Hid (LS w O O1 b s s (some c) [(g8, flL (0, 0), 32), (gc, [.int .i64 (-72057594037927936)], 3), (w.heap.size + 1 + 1, flL (0, 0), 32), (w.heap.size + 1, exL h2 la ln lc, 102), (w.heap.size, exL h ka kn kc, 102)] V47) := HS2.out.allocE (flL (0, 0)) 32 hV hG
        refine hK.out _ _ (fun _ => HSS.out _ _ _ _ _ HS48.out (by simp)) ?_
        clear hK K HS2 hV hG
        simp only [Act.put, List.setIfInBounds_toArray, List.set_cons_succ, List.set_cons_zero]
        refine wpAnyY_two (i := 3) (j := 7) rfl rfl (by kernel_rfl) (fun K hK => ?_) (fun K hK => ?_)
        · refine call89_step rfl rfl rfl rfl rfl rfl ?_
          refine (HA1.out _ _ _ _ gc HS48.out (by simp)).mono ?_
          rintro e V49 ⟨mt, mx, mp, mn, f1, f2, rfl, hV⟩
          refine ⟨_, rfl, ?_⟩
          obtain ⟨m, oc, O2, s2, hm, hRQ, hLS⟩ := hV.out
          have HS50 : Hid (LS w O O2 b s s2 oc [(g8, flL (0, 0), 32), (gc, [.int .i64 (-72057594037927936)], 3), (w.heap.size + 1 + 1, flL (0, 0), 32), (w.heap.size + 1, exL h2 la ln lc, 102), (w.heap.size, exL h ka kn kc, 102)] V49) := hLS
          have HR : Hid (RQ r1 m (f1, f2) oc ∧ m.isText = mt ∧ bs m.text = mx ∧ m.place = mp ∧ m.num = mn) := ⟨hRQ, hm⟩
          refine hK.out _ _ (fun _ => HSS.out _ _ _ _ _ HS50.out (by simp)) ?_
          clear hK K HS48 hV hm hRQ hLS
          simp only [Act.put, List.setIfInBounds_toArray, List.set_cons_succ, List.set_cons_zero]
          refine wpAnyY_takeD (i := 4) 10 (v := .tuple #[.agg #[.bool mt, .string mx, .int .i64 mp, .int .i64 mn], .agg #[.int .i64 f1, .int .i64 f2]]) rfl rfl (by kernel_rfl) (by kernel_rfl) (late_of (by kernel_rfl)) (by kernel_rfl) (by kernel_rfl) (fun _ _ _ h => h) (HSS.out _ _ _ _ _ HS50.out (by simp)) (Or.inl ⟨by rfl, by (intro W hW; obtain ⟨_, _, _, _, _⟩ := hW; go_simp)⟩) ?_
          simp only [Act.put, List.setIfInBounds_toArray, List.set_cons_succ, List.set_cons_zero]
          refine wpAnyY_takeD (i := 5) 15 (v := .agg #[.bool mt, .string mx, .int .i64 mp, .int .i64 mn]) rfl rfl (by kernel_rfl) (by kernel_rfl) (late_of (by kernel_rfl)) (by kernel_rfl) (by kernel_rfl) (fun _ _ _ h => h) (HSS.out _ _ _ _ _ HS50.out (by simp)) (Or.inl ⟨by rfl, by (intro W hW; obtain ⟨_, _, _, _, _⟩ := hW; go_simp)⟩) ?_
          simp only [Act.put, List.setIfInBounds_toArray, List.set_cons_succ, List.set_cons_zero]
          refine wpAnyY_takeD (i := 6) 16 (v := .agg #[.int .i64 f1, .int .i64 f2]) rfl rfl (by kernel_rfl) (by kernel_rfl) (late_of (by kernel_rfl)) (by kernel_rfl) (by kernel_rfl) (fun _ _ _ h => h) (HSS.out _ _ _ _ _ HS50.out (by simp)) (Or.inl ⟨by rfl, by (intro W hW; obtain ⟨_, _, _, _, _⟩ := hW; go_simp)⟩) ?_
          simp only [Act.put, List.setIfInBounds_toArray, List.set_cons_succ, List.set_cons_zero]
          refine wpAnyY_one (i := 7) rfl (by kernel_rfl) (fun K hK => ?_)
          refine alloc109_step rfl rfl rfl ?_
          intro V51 g7 hV hG
          have HS52 : Hid (LS w O O2 b s s2 oc [(g7, mnL mn0, 109), (g8, flL (0, 0), 32), (gc, [.int .i64 (-72057594037927936)], 3), (w.heap.size + 1 + 1, flL (0, 0), 32), (w.heap.size + 1, exL h2 la ln lc, 102), (w.heap.size, exL h ka kn kc, 102)] V51) := HS50.out.allocE (mnL mn0) 109 hV hG
          refine hK.out _ _ (fun _ => HSS.out _ _ _ _ _ HS52.out (by simp)) ?_
          clear hK K HS50 hV hG
          simp only [Act.put, List.setIfInBounds_toArray, List.set_cons_succ, List.set_cons_zero]
          refine wpAnyY_one (i := 9) rfl (by kernel_rfl) (fun K hK => ?_)
          have HF55 : Hid (LS w O O2 b s s2 oc [(g7, mnL mn0, 109), (g8, flL (0, 0), 32), (gc, [.int .i64 (-72057594037927936)], 3), (w.heap.size + 1 + 1, flL (0, 0), 32), (w.heap.size + 1, exL h2 la ln lc, 102), (w.heap.size, exL h ka kn kc, 102)] V51) := HS52.out.front (L1 := []) (L2 := [(g8, flL (0, 0), 32), (gc, [.int .i64 (-72057594037927936)], 3), (w.heap.size + 1 + 1, flL (0, 0), 32), (w.heap.size + 1, exL h2 la ln lc, 102), (w.heap.size, exL h ka kn kc, 102)]) rfl
          refine store109_step rfl rfl rfl rfl rfl (HF55.out.blk (List.mem_cons_self ..)) ?_
          intro V53 hV
          have HS54 : Hid (LS w O O2 b s s2 oc [(g7, mnL m, 109), (g8, flL (0, 0), 32), (gc, [.int .i64 (-72057594037927936)], 3), (w.heap.size + 1 + 1, flL (0, 0), 32), (w.heap.size + 1, exL h2 la ln lc, 102), (w.heap.size, exL h ka kn kc, 102)] V53) := HF55.out.store109 m HR.out.2.2.1.symm (by rw [hV, HR.out.2.1, HR.out.2.2.2.1, HR.out.2.2.2.2])
          refine hK.out _ _ (fun _ => HSS.out _ _ _ _ _ HS54.out (by simp)) ?_
          clear hK K HS52 hV HF55
          refine wpAnyY_one (i := 10) rfl (by kernel_rfl) (fun K hK => ?_)
          have HF58 : Hid (LS w O O2 b s s2 oc [(g8, flL (0, 0), 32), (g7, mnL m, 109), (gc, [.int .i64 (-72057594037927936)], 3), (w.heap.size + 1 + 1, flL (0, 0), 32), (w.heap.size + 1, exL h2 la ln lc, 102), (w.heap.size, exL h ka kn kc, 102)] V53) := HS54.out.front (L1 := [(g7, mnL m, 109)]) (L2 := [(gc, [.int .i64 (-72057594037927936)], 3), (w.heap.size + 1 + 1, flL (0, 0), 32), (w.heap.size + 1, exL h2 la ln lc, 102), (w.heap.size, exL h ka kn kc, 102)]) rfl
          refine store32_step rfl rfl rfl rfl rfl (HF58.out.blk (List.mem_cons_self ..)) ?_
          intro V56 hV
          have HS57 : Hid (LS w O O2 b s s2 oc [(g8, flL (f1, f2), 32), (g7, mnL m, 109), (gc, [.int .i64 (-72057594037927936)], 3), (w.heap.size + 1 + 1, flL (0, 0), 32), (w.heap.size + 1, exL h2 la ln lc, 102), (w.heap.size, exL h ka kn kc, 102)] V56) := HF58.out.store32 (f1, f2) hV
          refine hK.out _ _ (fun _ => HSS.out _ _ _ _ _ HS57.out (by simp)) ?_
          clear hK K HS54 hV HF58
          refine wpAnyY_done (by kernel_rfl) ?_ _
          go_wp2_with fail
          go_meet
          exact ⟨g7, g8, mt, mx, mp, mn, f1, f2, rfl, rfl, m, oc, O2, s2, HR.out, HS57.out.sub (by simp) (by have := HS57.out.nd; simp at this ⊢; omega)⟩
        · refine alloc109_step rfl rfl rfl ?_
          intro V59 g7 hV hG
          have HS60 : Hid (LS w O O1 b s s (some c) [(g7, mnL mn0, 109), (g8, flL (0, 0), 32), (gc, [.int .i64 (-72057594037927936)], 3), (w.heap.size + 1 + 1, flL (0, 0), 32), (w.heap.size + 1, exL h2 la ln lc, 102), (w.heap.size, exL h ka kn kc, 102)] V59) := HS48.out.allocE (mnL mn0) 109 hV hG
          refine hK.out _ _ (fun _ => HSS.out _ _ _ _ _ HS60.out (by simp)) ?_
          clear hK K HS48 hV hG
          simp only [Act.put, List.setIfInBounds_toArray, List.set_cons_succ, List.set_cons_zero]
          refine wpAnyY_one (i := 3) rfl (by kernel_rfl) (fun K hK => ?_)
          refine call89_step rfl rfl rfl rfl rfl rfl ?_
          refine (HA1.out _ _ _ _ gc HS60.out (by simp)).mono ?_
          rintro e V61 ⟨mt, mx, mp, mn, f1, f2, rfl, hV⟩
          refine ⟨_, rfl, ?_⟩
          obtain ⟨m, oc, O2, s2, hm, hRQ, hLS⟩ := hV.out
          have HS62 : Hid (LS w O O2 b s s2 oc [(g7, mnL mn0, 109), (g8, flL (0, 0), 32), (gc, [.int .i64 (-72057594037927936)], 3), (w.heap.size + 1 + 1, flL (0, 0), 32), (w.heap.size + 1, exL h2 la ln lc, 102), (w.heap.size, exL h ka kn kc, 102)] V61) := hLS
          have HR : Hid (RQ r1 m (f1, f2) oc ∧ m.isText = mt ∧ bs m.text = mx ∧ m.place = mp ∧ m.num = mn) := ⟨hRQ, hm⟩
          refine hK.out _ _ (fun _ => HSS.out _ _ _ _ _ HS62.out (by simp)) ?_
          clear hK K HS60 hV hm hRQ hLS
          simp only [Act.put, List.setIfInBounds_toArray, List.set_cons_succ, List.set_cons_zero]
          refine wpAnyY_takeD (i := 4) 10 (v := .tuple #[.agg #[.bool mt, .string mx, .int .i64 mp, .int .i64 mn], .agg #[.int .i64 f1, .int .i64 f2]]) rfl rfl (by kernel_rfl) (by kernel_rfl) (late_of (by kernel_rfl)) (by kernel_rfl) (by kernel_rfl) (fun _ _ _ h => h) (HSS.out _ _ _ _ _ HS62.out (by simp)) (Or.inl ⟨by rfl, by (intro W hW; obtain ⟨_, _, _, _, _⟩ := hW; go_simp)⟩) ?_
          simp only [Act.put, List.setIfInBounds_toArray, List.set_cons_succ, List.set_cons_zero]
          refine wpAnyY_takeD (i := 5) 15 (v := .agg #[.bool mt, .string mx, .int .i64 mp, .int .i64 mn]) rfl rfl (by kernel_rfl) (by kernel_rfl) (late_of (by kernel_rfl)) (by kernel_rfl) (by kernel_rfl) (fun _ _ _ h => h) (HSS.out _ _ _ _ _ HS62.out (by simp)) (Or.inl ⟨by rfl, by (intro W hW; obtain ⟨_, _, _, _, _⟩ := hW; go_simp)⟩) ?_
          simp only [Act.put, List.setIfInBounds_toArray, List.set_cons_succ, List.set_cons_zero]
          refine wpAnyY_takeD (i := 6) 16 (v := .agg #[.int .i64 f1, .int .i64 f2]) rfl rfl (by kernel_rfl) (by kernel_rfl) (late_of (by kernel_rfl)) (by kernel_rfl) (by kernel_rfl) (fun _ _ _ h => h) (HSS.out _ _ _ _ _ HS62.out (by simp)) (Or.inl ⟨by rfl, by (intro W hW; obtain ⟨_, _, _, _, _⟩ := hW; go_simp)⟩) ?_
          simp only [Act.put, List.setIfInBounds_toArray, List.set_cons_succ, List.set_cons_zero]
          refine wpAnyY_one (i := 9) rfl (by kernel_rfl) (fun K hK => ?_)
          have HF65 : Hid (LS w O O2 b s s2 oc [(g7, mnL mn0, 109), (g8, flL (0, 0), 32), (gc, [.int .i64 (-72057594037927936)], 3), (w.heap.size + 1 + 1, flL (0, 0), 32), (w.heap.size + 1, exL h2 la ln lc, 102), (w.heap.size, exL h ka kn kc, 102)] V61) := HS62.out.front (L1 := []) (L2 := [(g8, flL (0, 0), 32), (gc, [.int .i64 (-72057594037927936)], 3), (w.heap.size + 1 + 1, flL (0, 0), 32), (w.heap.size + 1, exL h2 la ln lc, 102), (w.heap.size, exL h ka kn kc, 102)]) rfl
          refine store109_step rfl rfl rfl rfl rfl (HF65.out.blk (List.mem_cons_self ..)) ?_
          intro V63 hV
          have HS64 : Hid (LS w O O2 b s s2 oc [(g7, mnL m, 109), (g8, flL (0, 0), 32), (gc, [.int .i64 (-72057594037927936)], 3), (w.heap.size + 1 + 1, flL (0, 0), 32), (w.heap.size + 1, exL h2 la ln lc, 102), (w.heap.size, exL h ka kn kc, 102)] V63) := HF65.out.store109 m HR.out.2.2.1.symm (by rw [hV, HR.out.2.1, HR.out.2.2.2.1, HR.out.2.2.2.2])
          refine hK.out _ _ (fun _ => HSS.out _ _ _ _ _ HS64.out (by simp)) ?_
          clear hK K HS62 hV HF65
          refine wpAnyY_one (i := 10) rfl (by kernel_rfl) (fun K hK => ?_)
          have HF68 : Hid (LS w O O2 b s s2 oc [(g8, flL (0, 0), 32), (g7, mnL m, 109), (gc, [.int .i64 (-72057594037927936)], 3), (w.heap.size + 1 + 1, flL (0, 0), 32), (w.heap.size + 1, exL h2 la ln lc, 102), (w.heap.size, exL h ka kn kc, 102)] V63) := HS64.out.front (L1 := [(g7, mnL m, 109)]) (L2 := [(gc, [.int .i64 (-72057594037927936)], 3), (w.heap.size + 1 + 1, flL (0, 0), 32), (w.heap.size + 1, exL h2 la ln lc, 102), (w.heap.size, exL h ka kn kc, 102)]) rfl
          refine store32_step rfl rfl rfl rfl rfl (HF68.out.blk (List.mem_cons_self ..)) ?_
          intro V66 hV
          have HS67 : Hid (LS w O O2 b s s2 oc [(g8, flL (f1, f2), 32), (g7, mnL m, 109), (gc, [.int .i64 (-72057594037927936)], 3), (w.heap.size + 1 + 1, flL (0, 0), 32), (w.heap.size + 1, exL h2 la ln lc, 102), (w.heap.size, exL h ka kn kc, 102)] V66) := HF68.out.store32 (f1, f2) hV
          refine hK.out _ _ (fun _ => HSS.out _ _ _ _ _ HS67.out (by simp)) ?_
          clear hK K HS64 hV HF68
          refine wpAnyY_done (by kernel_rfl) ?_ _
          go_wp2_with fail
          go_meet
          exact ⟨g7, g8, mt, mx, mp, mn, f1, f2, rfl, rfl, m, oc, O2, s2, HR.out, HS67.out.sub (by simp) (by have := HS67.out.nd; simp at this ⊢; omega)⟩
    · refine alloc109_step rfl rfl rfl ?_
      intro V69 g7 hV hG
      have HS70 : Hid (LS w O O1 b s s (some c) [(g7, mnL mn0, 109), (w.heap.size + 1 + 1, flL (0, 0), 32), (w.heap.size + 1, exL h2 la ln lc, 102), (w.heap.size, exL h ka kn kc, 102)] V69) := HS0.out.allocE (mnL mn0) 109 hV hG
      refine hK.out _ _ (fun _ => HSS.out _ _ _ _ _ HS70.out (by simp)) ?_
      clear hK K HS0 hV hG
      simp only [Act.put, List.setIfInBounds_toArray, List.set_cons_succ, List.set_cons_zero]
      refine wpAnyY_two (i := 2) (j := 8) rfl rfl (by kernel_rfl) (fun K hK => ?_) (fun K hK => ?_)
      · refine call95c_step rfl rfl rfl ?_
        intro V71 gc hV hG
        have HS72 : Hid (LS w O O1 b s s (some c) [(gc, [.int .i64 (-72057594037927936)], 3), (g7, mnL mn0, 109), (w.heap.size + 1 + 1, flL (0, 0), 32), (w.heap.size + 1, exL h2 la ln lc, 102), (w.heap.size, exL h ka kn kc, 102)] V71) := HS70.out.allocE _ 3 hV hG
        refine hK.out _ _ (fun _ => HSS.out _ _ _ _ _ HS72.out (by simp)) ?_
        clear hK K HS70 hV hG
        simp only [Act.put, List.setIfInBounds_toArray, List.set_cons_succ, List.set_cons_zero]
        refine wpAnyY_two (i := 3) (j := 8) rfl rfl (by kernel_rfl) (fun K hK => ?_) (fun K hK => ?_)
        · refine call89_step rfl rfl rfl rfl rfl rfl ?_
          refine (HA1.out _ _ _ _ gc HS72.out (by simp)).mono ?_
          rintro e V73 ⟨mt, mx, mp, mn, f1, f2, rfl, hV⟩
          refine ⟨_, rfl, ?_⟩
          obtain ⟨m, oc, O2, s2, hm, hRQ, hLS⟩ := hV.out
          have HS74 : Hid (LS w O O2 b s s2 oc [(gc, [.int .i64 (-72057594037927936)], 3), (g7, mnL mn0, 109), (w.heap.size + 1 + 1, flL (0, 0), 32), (w.heap.size + 1, exL h2 la ln lc, 102), (w.heap.size, exL h ka kn kc, 102)] V73) := hLS
          have HR : Hid (RQ r1 m (f1, f2) oc ∧ m.isText = mt ∧ bs m.text = mx ∧ m.place = mp ∧ m.num = mn) := ⟨hRQ, hm⟩
          refine hK.out _ _ (fun _ => HSS.out _ _ _ _ _ HS74.out (by simp)) ?_
          clear hK K HS72 hV hm hRQ hLS
          simp only [Act.put, List.setIfInBounds_toArray, List.set_cons_succ, List.set_cons_zero]
          refine wpAnyY_takeD (i := 4) 10 (v := .tuple #[.agg #[.bool mt, .string mx, .int .i64 mp, .int .i64 mn], .agg #[.int .i64 f1, .int .i64 f2]]) rfl rfl (by kernel_rfl) (by kernel_rfl) (late_of (by kernel_rfl)) (by kernel_rfl) (by kernel_rfl) (fun _ _ _ h => h) (HSS.out _ _ _ _ _ HS74.out (by simp)) (Or.inl ⟨by rfl, by (intro W hW; obtain ⟨_, _, _, _, _⟩ := hW; go_simp)⟩) ?_
          simp only [Act.put, List.setIfInBounds_toArray, List.set_cons_succ, List.set_cons_zero]
          refine wpAnyY_takeD (i := 5) 15 (v := .agg #[.bool mt, .string mx, .int .i64 mp, .int .i64 mn]) rfl rfl (by kernel_rfl) (by kernel_rfl) (late_of (by kernel_rfl)) (by kernel_rfl) (by kernel_rfl) (fun _ _ _ h => h) (HSS.out _ _ _ _ _ HS74.out (by simp)) (Or.inl ⟨by rfl, by (intro W hW; obtain ⟨_, _, _, _, _⟩ := hW; go_simp)⟩) ?_
          simp only [Act.put, List.setIfInBounds_toArray, List.set_cons_succ, List.set_cons_zero]
          refine wpAnyY_takeD (i := 6) 16 (v := .agg #[.int .i64 f1, .int .i64 f2]) rfl rfl (by kernel_rfl) (by kernel_rfl) (late_of (by kernel_rfl)) (by kernel_rfl) (by kernel_rfl) (fun _ _ _ h => h) (HSS.out _ _ _ _ _ HS74.out (by simp)) (Or.inl ⟨by rfl, by (intro W hW; obtain ⟨_, _, _, _, _⟩ := hW; go_simp)⟩) ?_
          simp only [Act.put, List.setIfInBounds_toArray, List.set_cons_succ, List.set_cons_zero]
          refine wpAnyY_one (i := 8) rfl (by kernel_rfl) (fun K hK => ?_)
          refine alloc32_step rfl rfl rfl ?_
          intro V75 g8 hV hG
          have HS76 : Hid (LS w O O2 b s s2 oc [(g8, flL (0, 0), 32), (gc, [.int .i64 (-72057594037927936)], 3), (g7, mnL mn0, 109), (w.heap.size + 1 + 1, flL (0, 0), 32), (w.heap.size + 1, exL h2 la ln lc, 102), (w.heap.size, exL h ka kn kc, 102)] V75) := HS74.out.allocE (flL (0, 0)) 32 hV hG
          refine hK.out _ _ (fun _ => HSS.out _ _ _ _ _ HS76.out (by simp)) ?_
          clear hK K HS74 hV hG
          simp only [Act.put, List.setIfInBounds_toArray, List.set_cons_succ, List.set_cons_zero]
          refine wpAnyY_one (i := 9) rfl (by kernel_rfl) (fun K hK => ?_)
          have HF79 : Hid (LS w O O2 b s s2 oc [(g7, mnL mn0, 109), (g8, flL (0, 0), 32), (gc, [.int .i64 (-72057594037927936)], 3), (w.heap.size + 1 + 1, flL (0, 0), 32), (w.heap.size + 1, exL h2 la ln lc, 102), (w.heap.size, exL h ka kn kc, 102)] V75) := HS76.out.front (L1 := [(g8, flL (0, 0), 32), (gc, [.int .i64 (-72057594037927936)], 3)]) (L2 := [(w.heap.size + 1 + 1, flL (0, 0), 32), (w.heap.size + 1, exL h2 la ln lc, 102), (w.heap.size, exL h ka kn kc, 102)]) rfl
          refine store109_step rfl rfl rfl rfl rfl (HF79.out.blk (List.mem_cons_self ..)) ?_
          intro V77 hV
          have HS78 : Hid (LS w O O2 b s s2 oc [(g7, mnL m, 109), (g8, flL (0, 0), 32), (gc, [.int .i64 (-72057594037927936)], 3), (w.heap.size + 1 + 1, flL (0, 0), 32), (w.heap.size + 1, exL h2 la ln lc, 102), (w.heap.size, exL h ka kn kc, 102)] V77) := HF79.out.store109 m HR.out.2.2.1.symm (by rw [hV, HR.out.2.1, HR.out.2.2.2.1, HR.out.2.2.2.2])
          refine hK.out _ _ (fun _ => HSS.out _ _ _ _ _ HS78.out (by simp)) ?_
          clear hK K HS76 hV HF79
          refine wpAnyY_one (i := 10) rfl (by kernel_rfl) (fun K hK => ?_)
          have HF82 : Hid (LS w O O2 b s s2 oc [(g8, flL (0, 0), 32), (g7, mnL m, 109), (gc, [.int .i64 (-72057594037927936)], 3), (w.heap.size + 1 + 1, flL (0, 0), 32), (w.heap.size + 1, exL h2 la ln lc, 102), (w.heap.size, exL h ka kn kc, 102)] V77) := HS78.out.front (L1 := [(g7, mnL m, 109)]) (L2 := [(gc, [.int .i64 (-72057594037927936)], 3), (w.heap.size + 1 + 1, flL (0, 0), 32), (w.heap.size + 1, exL h2 la ln lc, 102), (w.heap.size, exL h ka kn kc, 102)]) rfl
          refine store32_step rfl rfl rfl rfl rfl (HF82.out.blk (List.mem_cons_self ..)) ?_
          intro V80 hV
          have HS81 : Hid (LS w O O2 b s s2 oc [(g8, flL (f1, f2), 32), (g7, mnL m, 109), (gc, [.int .i64 (-72057594037927936)], 3), (w.heap.size + 1 + 1, flL (0, 0), 32), (w.heap.size + 1, exL h2 la ln lc, 102), (w.heap.size, exL h ka kn kc, 102)] V80) := HF82.out.store32 (f1, f2) hV
          refine hK.out _ _ (fun _ => HSS.out _ _ _ _ _ HS81.out (by simp)) ?_
          clear hK K HS78 hV HF82
          refine wpAnyY_done (by kernel_rfl) ?_ _
          go_wp2_with fail
          go_meet
          exact ⟨g7, g8, mt, mx, mp, mn, f1, f2, rfl, rfl, m, oc, O2, s2, HR.out, HS81.out.sub (by simp) (by have := HS81.out.nd; simp at this ⊢; omega)⟩
        · refine alloc32_step rfl rfl rfl ?_
          intro V83 g8 hV hG
          have HS84 : Hid (LS w O O1 b s s (some c) [(g8, flL (0, 0), 32), (gc, [.int .i64 (-72057594037927936)], 3), (g7, mnL mn0, 109), (w.heap.size + 1 + 1, flL (0, 0), 32), (w.heap.size + 1, exL h2 la ln lc, 102), (w.heap.size, exL h ka kn kc, 102)] V83) := HS72.out.allocE (flL (0, 0)) 32 hV hG
          refine hK.out _ _ (fun _ => HSS.out _ _ _ _ _ HS84.out (by simp)) ?_
          clear hK K HS72 hV hG
          simp only [Act.put, List.setIfInBounds_toArray, List.set_cons_succ, List.set_cons_zero]
          refine wpAnyY_one (i := 3) rfl (by kernel_rfl) (fun K hK => ?_)
          refine call89_step rfl rfl rfl rfl rfl rfl ?_
          refine (HA1.out _ _ _ _ gc HS84.out (by simp)).mono ?_
          rintro e V85 ⟨mt, mx, mp, mn, f1, f2, rfl, hV⟩
          refine ⟨_, rfl, ?_⟩
          obtain ⟨m, oc, O2, s2, hm, hRQ, hLS⟩ := hV.out
          have HS86 : Hid (LS w O O2 b s s2 oc [(g8, flL (0, 0), 32), (gc, [.int .i64 (-72057594037927936)], 3), (g7, mnL mn0, 109), (w.heap.size + 1 + 1, flL (0, 0), 32), (w.heap.size + 1, exL h2 la ln lc, 102), (w.heap.size, exL h ka kn kc, 102)] V85) := hLS
          have HR : Hid (RQ r1 m (f1, f2) oc ∧ m.isText = mt ∧ bs m.text = mx ∧ m.place = mp ∧ m.num = mn) := ⟨hRQ, hm⟩
          refine hK.out _ _ (fun _ => HSS.out _ _ _ _ _ HS86.out (by simp)) ?_
          clear hK K HS84 hV hm hRQ hLS
          simp only [Act.put, List.setIfInBounds_toArray, List.set_cons_succ, List.set_cons_zero]
          refine wpAnyY_takeD (i := 4) 10 (v := .tuple #[.agg #[.bool mt, .string mx, .int .i64 mp, .int .i64 mn], .agg #[.int .i64 f1, .int .i64 f2]]) rfl rfl (by kernel_rfl) (by kernel_rfl) (late_of (by kernel_rfl)) (by kernel_rfl) (by kernel_rfl) (fun _ _ _ h => h) (HSS.out _ _ _ _ _ HS86.out (by simp)) (Or.inl ⟨by rfl, by (intro W hW; obtain ⟨_, _, _, _, _⟩ := hW; go_simp)⟩) ?_
          simp only [Act.put, List.setIfInBounds_toArray, List.set_cons_succ, List.set_cons_zero]
          refine wpAnyY_takeD (i := 5) 15 (v := .agg #[.bool mt, .string mx, .int .i64 mp, .int .i64 mn]) rfl rfl (by kernel_rfl) (by kernel_rfl) (late_of (by kernel_rfl)) (by kernel_rfl) (by kernel_rfl) (fun _ _ _ h => h) (HSS.out _ _ _ _ _ HS86.out (by simp)) (Or.inl ⟨by rfl, by (intro W hW; obtain ⟨_, _, _, _, _⟩ := hW; go_simp)⟩) ?_
          simp only [Act.put, List.setIfInBounds_toArray, List.set_cons_succ, List.set_cons_zero]
          refine wpAnyY_takeD (i := 6) 16 (v := .agg #[.int .i64 f1, .int .i64 f2]) rfl rfl (by kernel_rfl) (by kernel_rfl) (late_of (by kernel_rfl)) (by kernel_rfl) (by kernel_rfl) (fun _ _ _ h => h) (HSS.out _ _ _ _ _ HS86.out (by simp)) (Or.inl ⟨by rfl, by (intro W hW; obtain ⟨_, _, _, _, _⟩ := hW; go_simp)⟩) ?_
          simp only [Act.put, List.setIfInBounds_toArray, List.set_cons_succ, List.set_cons_zero]
          refine wpAnyY_one (i := 9) rfl (by kernel_rfl) (fun K hK => ?_)
          have HF89 : Hid (LS w O O2 b s s2 oc [(g7, mnL mn0, 109), (g8, flL (0, 0), 32), (gc, [.int .i64 (-72057594037927936)], 3), (w.heap.size + 1 + 1, flL (0, 0), 32), (w.heap.size + 1, exL h2 la ln lc, 102), (w.heap.size, exL h ka kn kc, 102)] V85) := HS86.out.front (L1 := [(g8, flL (0, 0), 32), (gc, [.int .i64 (-72057594037927936)], 3)]) (L2 := [(w.heap.size + 1 + 1, flL (0, 0), 32), (w.heap.size + 1, exL h2 la ln lc, 102), (w.heap.size, exL h ka kn kc, 102)]) rfl
          refine store109_step rfl rfl rfl rfl rfl (HF89.out.blk (List.mem_cons_self ..)) ?_
          intro V87 hV
          have HS88 : Hid (LS w O O2 b s s2 oc [(g7, mnL m, 109), (g8, flL (0, 0), 32), (gc, [.int .i64 (-72057594037927936)], 3), (w.heap.size + 1 + 1, flL (0, 0), 32), (w.heap.size + 1, exL h2 la ln lc, 102), (w.heap.size, exL h ka kn kc, 102)] V87) := HF89.out.store109 m HR.out.2.2.1.symm (by rw [hV, HR.out.2.1, HR.out.2.2.2.1, HR.out.2.2.2.2])
          refine hK.out _ _ (fun _ => HSS.out _ _ _ _ _ HS88.out (by simp)) ?_
          clear hK K HS86 hV HF89
          refine wpAnyY_one (i := 10) rfl (by kernel_rfl) (fun K hK => ?_)
          have HF92 : Hid (LS w O O2 b s s2 oc [(g8, flL (0, 0), 32), (g7, mnL m, 109), (gc, [.int .i64 (-72057594037927936)], 3), (w.heap.size + 1 + 1, flL (0, 0), 32), (w.heap.size + 1, exL h2 la ln lc, 102), (w.heap.size, exL h ka kn kc, 102)] V87) := HS88.out.front (L1 := [(g7, mnL m, 109)]) (L2 := [(gc, [.int .i64 (-72057594037927936)], 3), (w.heap.size + 1 + 1, flL (0, 0), 32), (w.heap.size + 1, exL h2 la ln lc, 102), (w.heap.size, exL h ka kn kc, 102)]) rfl
          refine store32_step rfl rfl rfl rfl rfl (HF92.out.blk (List.mem_cons_self ..)) ?_
          intro V90 hV
          have HS91 : Hid (LS w O O2 b s s2 oc [(g8, flL (f1, f2), 32), (g7, mnL m, 109), (gc, [.int .i64 (-72057594037927936)], 3), (w.heap.size + 1 + 1, flL (0, 0), 32), (w.heap.size + 1, exL h2 la ln lc, 102), (w.heap.size, exL h ka kn kc, 102)] V90) := HF92.out.store32 (f1, f2) hV
          refine hK.out _ _ (fun _ => HSS.out _ _ _ _ _ HS91.out (by simp)) ?_
          clear hK K HS88 hV HF92
          refine wpAnyY_done (by kernel_rfl) ?_ _
          go_wp2_with fail
          go_meet
          exact ⟨g7, g8, mt, mx, mp, mn, f1, f2, rfl, rfl, m, oc, O2, s2, HR.out, HS91.out.sub (by simp) (by have := HS91.out.nd; simp at this ⊢; omega)⟩
      · refine alloc32_step rfl rfl rfl ?_
        intro V93 g8 hV hG
        have HS94 : Hid (LS w O O1 b s s (some c) [(g8, flL (0, 0), 32), (g7, mnL mn0, 109), (w.heap.size + 1 + 1, flL (0, 0), 32), (w.heap.size + 1, exL h2 la ln lc, 102), (w.heap.size, exL h ka kn kc, 102)] V93) := HS70.out.allocE (flL (0, 0)) 32 hV hG
        refine hK.out _ _ (fun _ => HSS.out _ _ _ _ _ HS94.out (by simp)) ?_
        clear hK K HS70 hV hG
        simp only [Act.put, List.setIfInBounds_toArray, List.set_cons_succ, List.set_cons_zero]
        refine wpAnyY_one (i := 2) rfl (by kernel_rfl) (fun K hK => ?_)
        refine call95c_step rfl rfl rfl ?_
        intro V95 gc hV hG
        have HS96 : Hid (LS w O O1 b s s (some c) [(gc, [.int .i64 (-72057594037927936)], 3), (g8, flL (0, 0), 32), (g7, mnL mn0, 109), (w.heap.size + 1 + 1, flL (0, 0), 32), (w.heap.size + 1, exL h2 la ln lc, 102), (w.heap.size, exL h ka kn kc, 102)] V95) := HS94.out.allocE _ 3 hV hG
        refine hK.out _ _ (fun _ => HSS.out _ _ _ _ _ HS96.out (by simp)) ?_
        clear hK K HS94 hV hG
        simp only [Act.put, List.setIfInBounds_toArray, List.set_cons_succ, List.set_cons_zero]
        refine wpAnyY_one (i := 3) rfl (by kernel_rfl) (fun K hK => ?_)
        refine call89_step rfl rfl rfl rfl rfl rfl ?_
        refine (HA1.out _ _ _ _ gc HS96.out (by simp)).mono ?_
        rintro e V97 ⟨mt, mx, mp, mn, f1, f2, rfl, hV⟩
        refine ⟨_, rfl, ?_⟩
        obtain ⟨m, oc, O2, s2, hm, hRQ, hLS⟩ := hV.out
        have HS98 : Hid (LS w O O2 b s s2 oc [(gc, [.int .i64 (-72057594037927936)], 3), (g8, flL (0, 0), 32), (g7, mnL mn0, 109), (w.heap.size + 1 + 1, flL (0, 0), 32), (w.heap.size + 1, exL h2 la ln lc, 102), (w.heap.size, exL h ka kn kc, 102)] V97) := hLS
        have HR : Hid (RQ r1 m (f1, f2) oc ∧ m.isText = mt ∧ bs m.text = mx ∧ m.place = mp ∧ m.num = mn) := ⟨hRQ, hm⟩
        refine hK.out _ _ (fun _ => HSS.out _ _ _ _ _ HS98.out (by simp)) ?_
        clear hK K HS96 hV hm hRQ hLS
        simp only [Act.put, List.setIfInBounds_toArray, List.set_cons_succ, List.set_cons_zero]
        refine wpAnyY_takeD (i := 4) 10 (v := .tuple #[.agg #[.bool mt, .string mx, .int .i64 mp, .int .i64 mn], .agg #[.int .i64 f1, .int .i64 f2]]) rfl rfl (by kernel_rfl) (by kernel_rfl) (late_of (by kernel_rfl)) (by kernel_rfl) (by kernel_rfl) (fun _ _ _ h => h) (HSS.out _ _ _ _ _ HS98.out (by simp)) (Or.inl ⟨by rfl, by (intro W hW; obtain ⟨_, _, _, _, _⟩ := hW; go_simp)⟩) ?_
        simp only [Act.put, List.setIfInBounds_toArray, List.set_cons_succ, List.set_cons_zero]
        refine wpAnyY_takeD (i := 5) 15 (v := .agg #[.bool mt, .string mx, .int .i64 mp, .int .i64 mn]) rfl rfl (by kernel_rfl) (by kernel_rfl) (late_of (by kernel_rfl)) (by kernel_rfl) (by kernel_rfl) (fun _ _ _ h => h) (HSS.out _ _ _ _ _ HS98.out (by simp)) (Or.inl ⟨by rfl, by (intro W hW; obtain ⟨_, _, _, _, _⟩ := hW; go_simp)⟩) ?_
        simp only [Act.put, List.setIfInBounds_toArray, List.set_cons_succ, List.set_cons_zero]
        refine wpAnyY_takeD (i := 6) 16 (v := .agg #[.int .i64 f1, .int .i64 f2]) rfl rfl (by kernel_rfl) (by kernel_rfl) (late_of (by kernel_rfl)) (by kernel_rfl) (by kernel_rfl) (fun _ _ _ h => h) (HSS.out _ _ _ _ _ HS98.out (by simp)) (Or.inl ⟨by rfl, by (intro W hW; obtain ⟨_, _, _, _, _⟩ := hW; go_simp)⟩) ?_
        simp only [Act.put, List.setIfInBounds_toArray, List.set_cons_succ, List.set_cons_zero]
        refine wpAnyY_one (i := 9) rfl (by kernel_rfl) (fun K hK => ?_)
        have HF101 : Hid (LS w O O2 b s s2 oc [(g7, mnL mn0, 109), (gc, [.int .i64 (-72057594037927936)], 3), (g8, flL (0, 0), 32), (w.heap.size + 1 + 1, flL (0, 0), 32), (w.heap.size + 1, exL h2 la ln lc, 102), (w.heap.size, exL h ka kn kc, 102)] V97) := HS98.out.front (L1 := [(gc, [.int .i64 (-72057594037927936)], 3), (g8, flL (0, 0), 32)]) (L2 := [(w.heap.size + 1 + 1, flL (0, 0), 32), (w.heap.size + 1, exL h2 la ln lc, 102), (w.heap.size, exL h ka kn kc, 102)]) rfl
        refine store109_step rfl rfl rfl rfl rfl (HF101.out.blk (List.mem_cons_self ..)) ?_
        intro V99 hV
        have HS100 : Hid (LS w O O2 b s s2 oc [(g7, mnL m, 109), (gc, [.int .i64 (-72057594037927936)], 3), (g8, flL (0, 0), 32), (w.heap.size + 1 + 1, flL (0, 0), 32), (w.heap.size + 1, exL h2 la ln lc, 102), (w.heap.size, exL h ka kn kc, 102)] V99) := HF101.out.store109 m HR.out.2.2.1.symm (by rw [hV, HR.out.2.1, HR.out.2.2.2.1, HR.out.2.2.2.2])
        refine hK.out _ _ (fun _ => HSS.out _ _ _ _ _ HS100.out (by simp)) ?_
        clear hK K HS98 hV HF101
        refine wpAnyY_one (i := 10) rfl (by kernel_rfl) (fun K hK => ?_)
        have HF104 : Hid (LS w O O2 b s s2 oc [(g8, flL (0, 0), 32), (g7, mnL m, 109), (gc, [.int .i64 (-72057594037927936)], 3), (w.heap.size + 1 + 1, flL (0, 0), 32), (w.heap.size + 1, exL h2 la ln lc, 102), (w.heap.size, exL h ka kn kc, 102)] V99) := HS100.out.front (L1 := [(g7, mnL m, 109), (gc, [.int .i64 (-72057594037927936)], 3)]) (L2 := [(w.heap.size + 1 + 1, flL (0, 0), 32), (w.heap.size + 1, exL h2 la ln lc, 102), (w.heap.size, exL h ka kn kc, 102)]) rfl
        refine store32_step rfl rfl rfl rfl rfl (HF104.out.blk (List.mem_cons_self ..)) ?_
        intro V102 hV
        have HS103 : Hid (LS w O O2 b s s2 oc [(g8, flL (f1, f2), 32), (g7, mnL m, 109), (gc, [.int .i64 (-72057594037927936)], 3), (w.heap.size + 1 + 1, flL (0, 0), 32), (w.heap.size + 1, exL h2 la ln lc, 102), (w.heap.size, exL h ka kn kc, 102)] V102) := HF104.out.store32 (f1, f2) hV
        refine hK.out _ _ (fun _ => HSS.out _ _ _ _ _ HS103.out (by simp)) ?_
        clear hK K HS100 hV HF104
        refine wpAnyY_done (by kernel_rfl) ?_ _
        go_wp2_with fail
        go_meet
        exact ⟨g7, g8, mt, mx, mp, mn, f1, f2, rfl, rfl, m, oc, O2, s2, HR.out, HS103.out.sub (by simp) (by have := HS103.out.nd; simp at this ⊢; omega)⟩
    · refine alloc32_step rfl rfl rfl ?_
      intro V105 g8 hV hG
      have HS106 : Hid (LS w O O1 b s s (some c) [(g8, flL (0, 0), 32), (w.heap.size + 1 + 1, flL (0, 0), 32), (w.heap.size + 1, exL h2 la ln lc, 102), (w.heap.size, exL h ka kn kc, 102)] V105) := HS0.out.allocE (flL (0, 0)) 32 hV hG
      refine hK.out _ _ (fun _ => HSS.out _ _ _ _ _ HS106.out (by simp)) ?_
      clear hK K HS0 hV hG
      simp only [Act.put, List.setIfInBounds_toArray, List.set_cons_succ, List.set_cons_zero]
      refine wpAnyY_two (i := 2) (j := 7) rfl rfl (by kernel_rfl) (fun K hK => ?_) (fun K hK => ?_)
      · refine call95c_step rfl rfl rfl ?_
        intro V107 gc hV hG
        have HS108 : Hid (LS w O O1 b s s (some c) [(gc, [.int .i64 (-72057594037927936)], 3), (g8, flL (0, 0), 32), (w.heap.size + 1 + 1, flL (0, 0), 32), (w.heap.size + 1, exL h2 la ln lc, 102), (w.heap.size, exL h ka kn kc, 102)] V107) := HS106.out.allocE _ 3 hV hG
        refine hK.out _ _ (fun _ => HSS.out _ _ _ _ _ HS108.out (by simp)) ?_
        clear hK K HS106 hV hG
        simp only [Act.put, List.setIfInBounds_toArray, List.set_cons_succ, List.set_cons_zero]
        refine wpAnyY_two (i := 3) (j := 7) rfl rfl (by kernel_rfl) (fun K hK => ?_) (fun K hK => ?_)
        · refine call89_step rfl rfl rfl rfl rfl rfl ?_
          refine (HA1.out _ _ _ _ gc HS108.out (by simp)).mono ?_
          rintro e V109 ⟨mt, mx, mp, mn, f1, f2, rfl, hV⟩
          refine ⟨_, rfl, ?_⟩
          obtain ⟨m, oc, O2, s2, hm, hRQ, hLS⟩ := hV.out
          have HS110 : Hid (LS w O O2 b s s2 oc [(gc, [.int .i64 (-72057594037927936)], 3), (g8, flL (0, 0), 32), (w.heap.size + 1 + 1, flL (0, 0), 32), (w.heap.size + 1, exL h2 la ln lc, 102), (w.heap.size, exL h ka kn kc, 102)] V109) := hLS
          have HR : Hid (RQ r1 m (f1, f2) oc ∧ m.isText = mt ∧ bs m.text = mx ∧ m.place = mp ∧ m.num = mn) := ⟨hRQ, hm⟩
          refine hK.out _ _ (fun _ => HSS.out _ _ _ _ _ HS110.out (by simp)) ?_
          clear hK K HS108 hV hm hRQ hLS
          simp only [Act.put, List.setIfInBounds_toArray, List.set_cons_succ, List.set_cons_zero]
          refine wpAnyY_takeD (i := 4) 10 (v := .tuple #[.agg #[.bool mt, .string mx, .int .i64 mp, .int .i64 mn], .agg #[.int .i64 f1, .int .i64 f2]]) rfl rfl (by kernel_rfl) (by kernel_rfl) (late_of (by kernel_rfl)) (by kernel_rfl) (by kernel_rfl) (fun _ _ _ h => h) (HSS.out _ _ _ _ _ HS110.out (by simp)) (Or.inl ⟨by rfl, by (intro W hW; obtain ⟨_, _, _, _, _⟩ := hW; go_simp)⟩) ?_
          simp only [Act.put, List.setIfInBounds_toArray, List.set_cons_succ, List.set_cons_zero]
          refine wpAnyY_takeD (i := 5) 15 (v := .agg #[.bool mt, .string mx, .int .i64 mp, .int .i64 mn]) rfl rfl (by kernel_rfl) (by kernel_rfl) (late_of (by kernel_rfl)) (by kernel_rfl) (by kernel_rfl) (fun _ _ _ h => h) (HSS.out _ _ _ _ _ HS110.out (by simp)) (Or.inl ⟨by rfl, by (intro W hW; obtain ⟨_, _, _, _, _⟩ := hW; go_simp)⟩) ?_
          simp only [Act.put, List.setIfInBounds_toArray, List.set_cons_succ, List.set_cons_zero]
          refine wpAnyY_takeD (i := 6) 16 (v := .agg #[.int .i64 f1, .int .i64 f2]) rfl rfl (by kernel_rfl) (by kernel_rfl) (late_of (by kernel_rfl)) (by kernel_rfl) (by kernel_rfl) (fun _ _ _ h => h) (HSS.out _ _ _ _ _ HS110.out (by simp)) (Or.inl ⟨by rfl, by (intro W hW; obtain ⟨_, _, _, _, _⟩ := hW; go_simp)⟩) ?_
          simp only [Act.put, List.setIfInBounds_toArray, List.set_cons_succ, List.set_cons_zero]
          refine wpAnyY_one (i := 7) rfl (by kernel_rfl) (fun K hK => ?_)
          refine alloc109_step rfl rfl rfl ?_
          intro V111 g7 hV hG
          have HS112 : Hid (LS w O O2 b s s2 oc [(g7, mnL mn0, 109), (gc, [.int .i64 (-72057594037927936)], 3), (g8, flL (0, 0), 32), (w.heap.size + 1 + 1, flL (0, 0), 32), (w.heap.size + 1, exL h2 la ln lc, 102), (w.heap.size, exL h ka kn kc, 102)] V111) := HS110.out.allocE (mnL mn0) 109 hV hG
          refine hK.out _ _ (fun _ => HSS.out _ _ _ _ _ HS112.out (by simp)) ?_
          clear hK K HS110 hV hG
          simp only [Act.put, List.setIfInBounds_toArray, List.set_cons_succ, List.set_cons_zero]
          refine wpAnyY_one (i := 9) rfl (by kernel_rfl) (fun K hK => ?_)
          have HF115 : Hid (LS w O O2 b s s2 oc [(g7, mnL mn0, 109), (gc, [.int .i64 (-72057594037927936)], 3), (g8, flL (0, 0), 32), (w.heap.size + 1 + 1, flL (0, 0), 32), (w.heap.size + 1, exL h2 la ln lc, 102), (w.heap.size, exL h ka kn kc, 102)] V111) := HS112.out.front (L1 := []) (L2 := [(gc, [.int .i64 (-72057594037927936)], 3), (g8, flL (0, 0), 32), (w.heap.size + 1 + 1, flL (0, 0), 32), (w.heap.size + 1, exL h2 la ln lc, 102), (w.heap.size, exL h ka kn kc, 102)]) rfl
          refine store109_step rfl rfl rfl rfl rfl (HF115.out.blk (List.mem_cons_self ..)) ?_
          intro V113 hV
          have HS114 : Hid (LS w O O2 b s s2 oc [(g7, mnL m, 109), (gc, [.int .i64 (-72057594037927936)], 3), (g8, flL (0, 0), 32), (w.heap.size + 1 + 1, flL (0, 0), 32), (w.heap.size + 1, exL h2 la ln lc, 102), (w.heap.size, exL h ka kn kc, 102)] V113) := HF115.out.store109 m HR.out.2.2.1.symm (by rw [hV, HR.out.2.1, HR.out.2.2.2.1, HR.out.2.2.2.2])
          refine hK.out _ _ (fun _ => HSS.out _ _ _ _ _ HS114.out (by simp)) ?_
          clear hK K HS112 hV HF115
          refine wpAnyY_one (i := 10) rfl (by kernel_rfl) (fun K hK => ?_)
          have HF118 : Hid (LS w O O2 b s s2 oc [(g8, flL (0, 0), 32), (g7, mnL m, 109), (gc, [.int .i64 (-72057594037927936)], 3), (w.heap.size + 1 + 1, flL (0, 0), 32), (w.heap.size + 1, exL h2 la ln lc, 102), (w.heap.size, exL h ka kn kc, 102)] V113) := HS114.out.front (L1 := [(g7, mnL m, 109), (gc, [.int .i64 (-72057594037927936)], 3)]) (L2 := [(w.heap.size + 1 + 1, flL (0, 0), 32), (w.heap.size + 1, exL h2 la ln lc, 102), (w.heap.size, exL h ka kn kc, 102)]) rfl
          refine store32_step rfl rfl rfl rfl rfl (HF118.out.blk (List.mem_cons_self ..)) ?_
          intro V116 hV
          have HS117 : Hid (LS w O O2 b s s2 oc [(g8, flL (f1, f2), 32), (g7, mnL m, 109), (gc, [.int .i64 (-72057594037927936)], 3), (w.heap.size + 1 + 1, flL (0, 0), 32), (w.heap.size + 1, exL h2 la ln lc, 102), (w.heap.size, exL h ka kn kc, 102)] V116) := HF118.out.store32 (f1, f2) hV
          refine hK.out _ _ (fun _ => HSS.out _ _ _ _ _ HS117.out (by simp)) ?_
          clear hK K HS114 hV HF118
          refine wpAnyY_done (by kernel_rfl) ?_ _
          go_wp2_with fail
          go_meet
          exact ⟨g7, g8, mt, mx, mp, mn, f1, f2, rfl, rfl, m, oc, O2, s2, HR.out, HS117.out.sub (by simp) (by have := HS117.out.nd; simp at this ⊢; omega)⟩
        · refine alloc109_step rfl rfl rfl ?_
          intro V119 g7 hV hG
          have HS120 : Hid (LS w O O1 b s s (some c) [(g7, mnL mn0, 109), (gc, [.int .i64 (-72057594037927936)], 3), (g8, flL (0, 0), 32), (w.heap.size + 1 + 1, flL (0, 0), 32), (w.heap.size + 1, exL h2 la ln lc, 102), (w.heap.size, exL h ka kn kc, 102)] V119) := HS108.out.allocE (mnL mn0) 109 hV hG
          refine hK.out _ _ (fun _ => HSS.out _ _ _ _ _ HS120.out (by simp)) ?_
          clear hK K HS108 hV hG
          simp only [Act.put, List.setIfInBounds_toArray, List.set_cons_succ, List.set_cons_zero]
          refine wpAnyY_one (i := 3) rfl (by kernel_rfl) (fun K hK => ?_)
          refine call89_step rfl rfl rfl rfl rfl rfl ?_
          refine (HA1.out _ _ _ _ gc HS120.out (by simp)).mono ?_
          rintro e V121 ⟨mt, mx, mp, mn, f1, f2, rfl, hV⟩
          refine ⟨_, rfl, ?_⟩
          obtain ⟨m, oc, O2, s2, hm, hRQ, hLS⟩ := hV.out
          have HS122 : Hid (LS w O O2 b s s2 oc [(g7, mnL mn0, 109), (gc, [.int .i64 (-72057594037927936)], 3), (g8, flL (0, 0), 32), (w.heap.size + 1 + 1, flL (0, 0), 32), (w.heap.size + 1, exL h2 la ln lc, 102), (w.heap.size, exL h ka kn kc, 102)] V121) := hLS
          have HR : Hid (RQ r1 m (f1, f2) oc ∧ m.isText = mt ∧ bs m.text = mx ∧ m.place = mp ∧ m.num = mn) := ⟨hRQ, hm⟩
          refine hK.out _ _ (fun _ => HSS.out _ _ _ _ _ HS122.out (by simp)) ?_
          clear hK K HS120 hV hm hRQ hLS
          simp only [Act.put, List.setIfInBounds_toArray, List.set_cons_succ, List.set_cons_zero]
          refine wpAnyY_takeD (i := 4) 10 (v := .tuple #[.agg #[.bool mt, .string mx, .int .i64 mp, .int .i64 mn], .agg #[.int .i64 f1, .int .i64 f2]]) rfl rfl (by kernel_rfl) (by kernel_rfl) (late_of (by kernel_rfl)) (by kernel_rfl) (by kernel_rfl) (fun _ _ _ h => h) (HSS.out _ _ _ _ _ HS122.out (by simp)) (Or.inl ⟨by rfl, by (intro W hW; obtain ⟨_, _, _, _, _⟩ := hW; go_simp)⟩) ?_
          simp only [Act.put, List.setIfInBounds_toArray, List.set_cons_succ, List.set_cons_zero]
          refine wpAnyY_takeD (i := 5) 15 (v := .agg #[.bool mt, .string mx, .int .i64 mp, .int .i64 mn]) rfl rfl (by kernel_rfl) (by kernel_rfl) (late_of (by kernel_rfl)) (by kernel_rfl) (by kernel_rfl) (fun _ _ _ h => h) (HSS.out _ _ _ _ _ HS122.out (by simp)) (Or.inl ⟨by rfl, by (intro W hW; obtain ⟨_, _, _, _, _⟩ := hW; go_simp)⟩) ?_
          simp only [Act.put, List.setIfInBounds_toArray, List.set_cons_succ, List.set_cons_zero]
          refine wpAnyY_takeD (i := 6) 16 (v := .agg #[.int .i64 f1, .int .i64 f2]) rfl rfl (by kernel_rfl) (by kernel_rfl) (late_of (by kernel_rfl)) (by kernel_rfl) (by kernel_rfl) (fun _ _ _ h => h) (HSS.out _ _ _ _ _ HS122.out (by simp)) (Or.inl ⟨by rfl, by (intro W hW; obtain ⟨_, _, _, _, _⟩ := hW; go_simp)⟩) ?_
          simp only [Act.put, List.setIfInBounds_toArray, List.set_cons_succ, List.set_cons_zero]
          refine wpAnyY_one (i := 9) rfl (by kernel_rfl) (fun K hK => ?_)
          have HF125 : Hid (LS w O O2 b s s2 oc [(g7, mnL mn0, 109), (gc, [.int .i64 (-72057594037927936)], 3), (g8, flL (0, 0), 32), (w.heap.size + 1 + 1, flL (0, 0), 32), (w.heap.size + 1, exL h2 la ln lc, 102), (w.heap.size, exL h ka kn kc, 102)] V121) := HS122.out.front (L1 := []) (L2 := [(gc, [.int .i64 (-72057594037927936)], 3), (g8, flL (0, 0), 32), (w.heap.size + 1 + 1, flL (0, 0), 32), (w.heap.size + 1, exL h2 la ln lc, 102), (w.heap.size, exL h ka kn kc, 102)]) rfl
          refine store109_step rfl rfl rfl rfl rfl (HF125.out.blk (List.mem_cons_self ..)) ?_
          intro V123 hV
          have HS124 : Hid (LS w O O2 b s s2 oc [(g7, mnL m, 109), (gc, [.int .i64 (-72057594037927936)], 3), (g8, flL (0, 0), 32), (w.heap.size + 1 + 1, flL (0, 0), 32), (w.heap.size + 1, exL h2 la ln lc, 102), (w.heap.size, exL h ka kn kc, 102)] V123) := HF125.out.store109 m HR.out.2.2.1.symm (by rw [hV, HR.out.2.1, HR.out.2.2.2.1, HR.out.2.2.2.2])
          refine hK.out _ _ (fun _ => HSS.out _ _ _ _ _ HS124.out (by simp)) ?_
          clear hK K HS122 hV HF125
          refine wpAnyY_one (i := 10) rfl (by kernel_rfl) (fun K hK => ?_)
          have HF128 : Hid (LS w O O2 b s s2 oc [(g8, flL (0, 0), 32), (g7, mnL m, 109), (gc, [.int .i64 (-72057594037927936)], 3), (w.heap.size + 1 + 1, flL (0, 0), 32), (w.heap.size + 1, exL h2 la ln lc, 102), (w.heap.size, exL h ka kn kc, 102)] V123) := HS124.out.front (L1 := [(g7, mnL m, 109), (gc, [.int .i64 (-72057594037927936)], 3)]) (L2 := [(w.heap.size + 1 + 1, flL (0, 0), 32), (w.heap.size + 1, exL h2 la ln lc, 102), (w.heap.size, exL h ka kn kc, 102)]) rfl
          refine store32_step rfl rfl rfl rfl rfl (HF128.out.blk (List.mem_cons_self ..)) ?_
          intro V126 hV
          have HS127 : Hid (LS w O O2 b s s2 oc [(g8, flL (f1, f2), 32), (g7, mnL m, 109), (gc, [.int .i64 (-72057594037927936)], 3), (w.heap.size + 1 + 1, flL (0, 0), 32), (w.heap.size + 1, exL h2 la ln lc, 102), (w.heap.size, exL h ka kn kc, 102)] V126) := HF128.out.store32 (f1, f2) hV
          refine hK.out _ _ (fun _ => HSS.out _ _ _ _ _ HS127.out (by simp)) ?_
          clear hK K HS124 hV HF128
          refine wpAnyY_done (by kernel_rfl) ?_ _
          go_wp2_with fail
          go_meet
          exact ⟨g7, g8, mt, mx, mp, mn, f1, f2, rfl, rfl, m, oc, O2, s2, HR.out, HS127.out.sub (by simp) (by have := HS127.out.nd; simp at this ⊢; omega)⟩
      · refine alloc109_step rfl rfl rfl ?_
        intro V129 g7 hV hG
        have HS130 : Hid (LS w O O1 b s s (some c) [(g7, mnL mn0, 109), (g8, flL (0, 0), 32), (w.heap.size + 1 + 1, flL (0, 0), 32), (w.heap.size + 1, exL h2 la ln lc, 102), (w.heap.size, exL h ka kn kc, 102)] V129) := HS106.out.allocE (mnL mn0) 109 hV hG
        refine hK.out _ _ (fun _ => HSS.out _ _ _ _ _ HS130.out (by simp)) ?_
        clear hK K HS106 hV hG
        simp only [Act.put, List.setIfInBounds_toArray, List.set_cons_succ, List.set_cons_zero]
        refine wpAnyY_one (i := 2) rfl (by kernel_rfl) (fun K hK => ?_)
        refine call95c_step rfl rfl rfl ?_
        intro V131 gc hV hG
        have HS132 : Hid (LS w O O1 b s s (some c) [(gc, [.int .i64 (-72057594037927936)], 3), (g7, mnL mn0, 109), (g8, flL (0, 0), 32), (w.heap.size + 1 + 1, flL (0, 0), 32), (w.heap.size + 1, exL h2 la ln lc, 102), (w.heap.size, exL h ka kn kc, 102)] V131) := HS130.out.allocE _ 3 hV hG
        refine hK.out _ _ (fun _ => HSS.out _ _ _ _ _ HS132.out (by simp)) ?_
        clear hK K HS130 hV hG
        simp only [Act.put, List.setIfInBounds_toArray, List.set_cons_succ, List.set_cons_zero]
        refine wpAnyY_one (i := 3) rfl (by kernel_rfl) (fun K hK => ?_)
        refine call89_step rfl rfl rfl rfl rfl rfl ?_
        refine (HA1.out _ _ _ _ gc HS132.out (by simp)).mono ?_
        rintro e V133 ⟨mt, mx, mp, mn, f1, f2, rfl, hV⟩
        refine ⟨_, rfl, ?_⟩
        obtain ⟨m, oc, O2, s2, hm, hRQ, hLS⟩ := hV.out
        have HS134 : Hid (LS w O O2 b s s2 oc [(gc, [.int .i64 (-72057594037927936)], 3), (g7, mnL mn0, 109), (g8, flL (0, 0), 32), (w.heap.size + 1 + 1, flL (0, 0), 32), (w.heap.size + 1, exL h2 la ln lc, 102), (w.heap.size, exL h ka kn kc, 102)] V133) := hLS
        have HR : Hid (RQ r1 m (f1, f2) oc ∧ m.isText = mt ∧ bs m.text = mx ∧ m.place = mp ∧ m.num = mn) := ⟨hRQ, hm⟩
        refine hK.out _ _ (fun _ => HSS.out _ _ _ _ _ HS134.out (by simp)) ?_
        clear hK K HS132 hV hm hRQ hLS
        simp only [Act.put, List.setIfInBounds_toArray, List.set_cons_succ, List.set_cons_zero]
        refine wpAnyY_takeD (i := 4) 10 (v := .tuple #[.agg #[.bool mt, .string mx, .int .i64 mp, .int .i64 mn], .agg #[.int .i64 f1, .int .i64 f2]]) rfl rfl (by kernel_rfl) (by kernel_rfl) (late_of (by kernel_rfl)) (by kernel_rfl) (by kernel_rfl) (fun _ _ _ h => h) (HSS.out _ _ _ _ _ HS134.out (by simp)) (Or.inl ⟨by rfl, by (intro W hW; obtain ⟨_, _, _, _, _⟩ := hW; go_simp)⟩) ?_
        simp only [Act.put, List.setIfInBounds_toArray, List.set_cons_succ, List.set_cons_zero]
        refine wpAnyY_takeD (i := 5) 15 (v := .agg #[.bool mt, .string mx, .int .i64 mp, .int .i64 mn]) rfl rfl (by kernel_rfl) (by kernel_rfl) (late_of (by kernel_rfl)) (by kernel_rfl) (by kernel_rfl) (fun _ _ _ h => h) (HSS.out _ _ _ _ _ HS134.out (by simp)) (Or.inl ⟨by rfl, by (intro W hW; obtain ⟨_, _, _, _, _⟩ := hW; go_simp)⟩) ?_
        simp only [Act.put, List.setIfInBounds_toArray, List.set_cons_succ, List.set_cons_zero]
        refine wpAnyY_takeD (i := 6) 16 (v := .agg #[.int .i64 f1, .int .i64 f2]) rfl rfl (by kernel_rfl) (by kernel_rfl) (late_of (by kernel_rfl)) (by kernel_rfl) (by kernel_rfl) (fun _ _ _ h => h) (HSS.out _ _ _ _ _ HS134.out (by simp)) (Or.inl ⟨by rfl, by (intro W hW; obtain ⟨_, _, _, _, _⟩ := hW; go_simp)⟩) ?_
        simp only [Act.put, List.setIfInBounds_toArray, List.set_cons_succ, List.set_cons_zero]
        refine wpAnyY_one (i := 9) rfl (by kernel_rfl) (fun K hK => ?_)
        have HF137 : Hid (LS w O O2 b s s2 oc [(g7, mnL mn0, 109), (gc, [.int .i64 (-72057594037927936)], 3), (g8, flL (0, 0), 32), (w.heap.size + 1 + 1, flL (0, 0), 32), (w.heap.size + 1, exL h2 la ln lc, 102), (w.heap.size, exL h ka kn kc, 102)] V133) := HS134.out.front (L1 := [(gc, [.int .i64 (-72057594037927936)], 3)]) (L2 := [(g8, flL (0, 0), 32), (w.heap.size + 1 + 1, flL (0, 0), 32), (w.heap.size + 1, exL h2 la ln lc, 102), (w.heap.size, exL h ka kn kc, 102)]) rfl
        refine store109_step rfl rfl rfl rfl rfl (HF137.out.blk (List.mem_cons_self ..)) ?_
        intro V135 hV
        have HS136 : Hid (LS w O O2 b s s2 oc [(g7, mnL m, 109), (gc, [.int .i64 (-72057594037927936)], 3), (g8, flL (0, 0), 32), (w.heap.size + 1 + 1, flL (0, 0), 32), (w.heap.size + 1, exL h2 la ln lc, 102), (w.heap.size, exL h ka kn kc, 102)] V135) := HF137.out.store109 m HR.out.2.2.1.symm (by rw [hV, HR.out.2.1, HR.out.2.2.2.1, HR.out.2.2.2.2])
        refine hK.out _ _ (fun _ => HSS.out _ _ _ _ _ HS136.out (by simp)) ?_
        clear hK K HS134 hV HF137
        refine wpAnyY_one (i := 10) rfl (by kernel_rfl) (fun K hK => ?_)
        have HF140 : Hid (LS w O O2 b s s2 oc [(g8, flL (0, 0), 32), (g7, mnL m, 109), (gc, [.int .i64 (-72057594037927936)], 3), (w.heap.size + 1 + 1, flL (0, 0), 32), (w.heap.size + 1, exL h2 la ln lc, 102), (w.heap.size, exL h ka kn kc, 102)] V135) := HS136.out.front (L1 := [(g7, mnL m, 109), (gc, [.int .i64 (-72057594037927936)], 3)]) (L2 := [(w.heap.size + 1 + 1, flL (0, 0), 32), (w.heap.size + 1, exL h2 la ln lc, 102), (w.heap.size, exL h ka kn kc, 102)]) rfl
        refine store32_step rfl rfl rfl rfl rfl (HF140.out.blk (List.mem_cons_self ..)) ?_
        intro V138 hV
        have HS139 : Hid (LS w O O2 b s s2 oc [(g8, flL (f1, f2), 32), (g7, mnL m, 109), (gc, [.int .i64 (-72057594037927936)], 3), (w.heap.size + 1 + 1, flL (0, 0), 32), (w.heap.size + 1, exL h2 la ln lc, 102), (w.heap.size, exL h ka kn kc, 102)] V138) := HF140.out.store32 (f1, f2) hV
        refine hK.out _ _ (fun _ => HSS.out _ _ _ _ _ HS139.out (by simp)) ?_
        clear hK K HS136 hV HF140
        refine wpAnyY_done (by kernel_rfl) ?_ _
        go_wp2_with fail
        go_meet
        exact ⟨g7, g8, mt, mx, mp, mn, f1, f2, rfl, rfl, m, oc, O2, s2, HR.out, HS139.out.sub (by simp) (by have := HS139.out.nd; simp at this ⊢; omega)⟩
  case rest =>
    obtain ⟨g7, g8, mt, mx, mp, mn, f1, f2, rfl, rfl, m, oc, O2, s2, ⟨hRQ, e1, e2, e3, e4⟩, hL⟩ := hcut
    clear HA1 HSS HS0
    cases r1 with
    | error f' =>
      obtain ⟨rfl, hf, -, rfl⟩ := hRQ
      have HX2 : Hid (bandB c (h, k) (h2, k2) = .error (f1, f2)) := HX.out
      have HF : Hid (f1 ≠ 0) := hf
      have hq : (f1 == 0) = false := by rw [beq_eq_false_iff_ne]; exact hf
      have HL : Hid (LS w O O2 b s s2 none [(g7, mnL m, 109), (g8, flL (f1, f2), 32), (w.heap.size + 1 + 1, flL (0, 0), 32), (w.heap.size + 1, exL h2 la ln lc, 102), (w.heap.size, exL h ka kn kc, 102)] wc) := hL
      have y0 : wc.cell? ⟨g8, 0, none⟩ = some (.int .i64 f1) := HL.out.at (g := g8) (cs := flL (f1, f2)) (ty := 32) (by simp) rfl
      have y1 : wc.cell? ⟨g8, 1, none⟩ = some (.int .i64 f2) := HL.out.at (g := g8) (cs := flL (f1, f2)) (ty := 32) (by simp) rfl
      have z0 : wc.cell? ⟨w.heap.size + 1 + 1, 0, none⟩ = some (.int .i64 0) := HL.out.at (g := w.heap.size + 1 + 1) (cs := flL (0, 0)) (ty := 32) (by simp) rfl
      have z1 : wc.cell? ⟨w.heap.size + 1 + 1, 1, none⟩ = some (.int .i64 0) := HL.out.at (g := w.heap.size + 1 + 1) (cs := flL (0, 0)) (ty := 32) (by simp) rfl
      have zf : ∀ i, wc.frozen? ⟨w.heap.size + 1 + 1, i, none⟩ = false := fun i => HL.out.fz (g := w.heap.size + 1 + 1) (cs := flL (0, 0)) (ty := 32) (by simp) i
      clear HX HA2 hf hL e1 e2 e3 e4
      go_wp2
      refine bodyPost_ret (v := flV (f1, f2)) ?_ rfl ?_
      · simp only [results, hres]
        unfold flV
        simp only
        go_simp
      · show TPost _ _ _ _ _ _
        rw [HX2.out]
        exact ⟨HF.out, rfl, (HL.out.fr.setCell (.inr (by omega)) _ _).setCell (.inr (by omega)) _ _⟩
    | ok x =>
      obtain ⟨c1, m'⟩ := x
      obtain ⟨hf, rfl, rfl⟩ := hRQ
      cases hf
      obtain ⟨r2, hr2⟩ : ∃ r, r = askQ (numFrom m.num) c1 (h2, k2) := ⟨_, rfl⟩
      have HX2 : Hid (bandB c (h, k) (h2, k2) = band2 m.place r2) := by show _ = _; rw [hr2]; exact HX.out
      have HL : Hid (LS w O O2 b s s2 (some c1) [(g7, mnL m, 109), (g8, flL (0, 0), 32), (w.heap.size + 1 + 1, flL (0, 0), 32), (w.heap.size + 1, exL h2 la ln lc, 102), (w.heap.size, exL h ka kn kc, 102)] wc) := hL
      obtain ⟨q1, hq1⟩ : ∃ q, q = m.num := ⟨_, rfl⟩
      have HSS2 : Hid (∀ O' s' oc L W, LS w O O' b s s' oc L W → (w.heap.size + 1, exL h2 la ln lc, 102) ∈ L → (g7, mnL m, 109) ∈ L → W.cell? ⟨w.heap.size + 1, 0, none⟩ = some (.int .i64 h2.kind) ∧ W.cell? ⟨w.heap.size + 1, 1, none⟩ = some (.int .i64 h2.num) ∧ W.cell? ⟨w.heap.size + 1, 2, none⟩ = some (.string (bs h2.text)) ∧ W.cell? ⟨w.heap.size + 1, 3, none⟩ = some (.slice la ln lc) ∧ W.cell? ⟨w.heap.size + 1, 4, none⟩ = some (.int .i64 h2.pl) ∧ W.cell? ⟨g7, 3, none⟩ = some (.int .i64 q1)) := fun O' s' oc L W h1 h2 h3 => ⟨h1.at h2 rfl, h1.at h2 rfl, h1.at h2 rfl, h1.at h2 rfl, h1.at h2 rfl, by rw [hq1]; exact h1.at h3 rfl⟩
      rw [← hq1] at hr2
      have HA3 := HA2.out c1 q1
      rw [← hr2] at HA3
      have HA3' : Hid _ := HA3
      have y0 : wc.cell? ⟨g8, 0, none⟩ = some (.int .i64 0) := HL.out.at (g := g8) (cs := flL (0, 0)) (ty := 32) (by simp) rfl
      clear HA2 HX hL e1 e2 e3 e4 hr2 hq1
      go_upto_region 4 with (fail)
      clear y0
      have HS0 : Hid (LS w O O2 b s s2 (some c1) [(g7, mnL m, 109), (g8, flL (0, 0), 32), (w.heap.size + 1 + 1, flL (0, 0), 32), (w.heap.size + 1, exL h2 la ln lc, 102), (w.heap.size, exL h ka kn kc, 102)] wc.drew) := HL.out.drew
      clear HL
      obtain ⟨wd, hwd⟩ : ∃ wd, wd = wc := ⟨_, rfl⟩
      subst hwd
      go_cut [9] (fun mv wc => ∃ g9 mt mx mp mn f1 f2, mv = .pointer (some ⟨g9, 0, none⟩) ∧ AR r2 w O b s mt mx mp mn f1 f2 (fun m_x => [(g9, mnL m_x, 109), (g7, mnL m, 109), (g8, flL (f1, f2), 32), (w.heap.size + 1 + 1, flL (0, 0), 32)]) wc)
      case first =>
        refine wp_region_Y (fun j => [].contains j) (fun W => W.cell? ⟨w.heap.size + 1, 0, none⟩ = some (.int .i64 h2.kind) ∧ W.cell? ⟨w.heap.size + 1, 1, none⟩ = some (.int .i64 h2.num) ∧ W.cell? ⟨w.heap.size + 1, 2, none⟩ = some (.string (bs h2.text)) ∧ W.cell? ⟨w.heap.size + 1, 3, none⟩ = some (.slice la ln lc) ∧ W.cell? ⟨w.heap.size + 1, 4, none⟩ = some (.int .i64 h2.pl) ∧ W.cell? ⟨g7, 3, none⟩ = some (.int .i64 q1)) (by kernel_rfl) ?_
        refine wpAnyY_takeD (i := 0) 22 (v := .pointer (some ⟨b, 0, none⟩)) rfl rfl (by kernel_rfl) (by kernel_rfl) (late_of (by kernel_rfl)) (by kernel_rfl) (by kernel_rfl) (fun _ _ _ h => h) (HSS2.out _ _ _ _ _ HS0.out (by simp) (by simp)) (Or.inl ⟨by rfl, by (intro W hW; obtain ⟨_, _, _, _, _, _⟩ := hW; go_simp)⟩) ?_
        simp only [Act.put, List.setIfInBounds_toArray, List.set_cons_succ, List.set_cons_zero]
        refine wpAnyY_takeD (i := 1) 23 (v := .agg #[.int .i64 h2.kind, .int .i64 h2.num, .string (bs h2.text), .slice la ln lc, .int .i64 h2.pl]) rfl rfl (by kernel_rfl) (by kernel_rfl) (late_of (by kernel_rfl)) (by kernel_rfl) (by kernel_rfl) (fun _ _ _ h => h) (HSS2.out _ _ _ _ _ HS0.out (by simp) (by simp)) (Or.inl ⟨by rfl, by (intro W hW; obtain ⟨_, _, _, _, _, _⟩ := hW; go_simp)⟩) ?_
        simp only [Act.put, List.setIfInBounds_toArray, List.set_cons_succ, List.set_cons_zero]
        refine wpAnyY_takeD (i := 2) 24 (v := .pointer (some ⟨g7, 3, none⟩)) rfl rfl (by kernel_rfl) (by kernel_rfl) (late_of (by kernel_rfl)) (by kernel_rfl) (by kernel_rfl) (fun _ _ _ h => h) (HSS2.out _ _ _ _ _ HS0.out (by simp) (by simp)) (Or.inl ⟨by rfl, by (intro W hW; obtain ⟨_, _, _, _, _, _⟩ := hW; go_simp)⟩) ?_
        simp only [Act.put, List.setIfInBounds_toArray, List.set_cons_succ, List.set_cons_zero]
        refine wpAnyY_takeD (i := 3) 25 (v := .int .i64 q1) rfl rfl (by kernel_rfl) (by kernel_rfl) (late_of (by kernel_rfl)) (by kernel_rfl) (by kernel_rfl) (fun _ _ _ h => h) (HSS2.out _ _ _ _ _ HS0.out (by simp) (by simp)) (Or.inl ⟨by rfl, by (intro W hW; obtain ⟨_, _, _, _, _, _⟩ := hW; go_simp)⟩) ?_
        simp only [Act.put, List.setIfInBounds_toArray, List.set_cons_succ, List.set_cons_zero]
        refine wpAnyY_two (i := 4) (j := 9) rfl rfl (by kernel_rfl) (fun K hK => ?_) (fun K hK => ?_)
        · refine call95t_step rfl rfl rfl rfl ?_
          intro V1 gd hV hG
          have HS2 : Hid (LS w O O2 b s s2 (some c1) [(gd, [.int .i64 q1], 3), (g7, mnL m, 109), (g8, flL (0, 0), 32), (w.heap.size + 1 + 1, flL (0, 0), 32), (w.heap.size + 1, exL h2 la ln lc, 102), (w.heap.size, exL h ka kn kc, 102)] V1) := HS0.out.allocE _ 3 hV hG
          refine hK.out _ _ (fun _ => HSS2.out _ _ _ _ _ HS2.out (by simp) (by simp)) ?_
          clear hK K HS0 hV hG
          simp only [Act.put, List.setIfInBounds_toArray, List.set_cons_succ, List.set_cons_zero]
          refine wpAnyY_two (i := 5) (j := 9) rfl rfl (by kernel_rfl) (fun K hK => ?_) (fun K hK => ?_)
          · refine call89_step rfl rfl rfl rfl rfl rfl ?_
            refine (HA3'.out _ _ _ _ gd HS2.out (by simp)).mono ?_
            rintro e V3 ⟨mt_x, mx_x, mp_x, mn_x, f1_x, f2_x, rfl, hV⟩
            refine ⟨_, rfl, ?_⟩
            obtain ⟨m_x, oc_x, O2_x, s2_x, hm, hRQ, hLS⟩ := hV.out
            have HS4 : Hid (LS w O O2_x b s s2_x oc_x [(gd, [.int .i64 q1], 3), (g7, mnL m, 109), (g8, flL (0, 0), 32), (w.heap.size + 1 + 1, flL (0, 0), 32), (w.heap.size + 1, exL h2 la ln lc, 102), (w.heap.size, exL h ka kn kc, 102)] V3) := hLS
            have HR : Hid (RQ r2 m_x (f1_x, f2_x) oc_x ∧ m_x.isText = mt_x ∧ bs m_x.text = mx_x ∧ m_x.place = mp_x ∧ m_x.num = mn_x) := ⟨hRQ, hm⟩
            refine hK.out _ _ (fun _ => HSS2.out _ _ _ _ _ HS4.out (by simp) (by simp)) ?_
            clear hK K HS2 hV hm hRQ hLS
            simp only [Act.put, List.setIfInBounds_toArray, List.set_cons_succ, List.set_cons_zero]
            refine wpAnyY_takeD (i := 6) 21 (v := .tuple #[.agg #[.bool mt_x, .string mx_x, .int .i64 mp_x, .int .i64 mn_x], .agg #[.int .i64 f1_x, .int .i64 f2_x]]) rfl rfl (by kernel_rfl) (by kernel_rfl) (late_of (by kernel_rfl)) (by kernel_rfl) (by kernel_rfl) (fun _ _ _ h => h) (HSS2.out _ _ _ _ _ HS4.out (by simp) (by simp)) (Or.inl ⟨by rfl, by (intro W hW; obtain ⟨_, _, _, _, _, _⟩ := hW; go_simp)⟩) ?_
            simp only [Act.put, List.setIfInBounds_toArray, List.set_cons_succ, List.set_cons_zero]
            refine wpAnyY_takeD (i := 7) 28 (v := .agg #[.bool mt_x, .string mx_x, .int .i64 mp_x, .int .i64 mn_x]) rfl rfl (by kernel_rfl) (by kernel_rfl) (late_of (by kernel_rfl)) (by kernel_rfl) (by kernel_rfl) (fun _ _ _ h => h) (HSS2.out _ _ _ _ _ HS4.out (by simp) (by simp)) (Or.inl ⟨by rfl, by (intro W hW; obtain ⟨_, _, _, _, _, _⟩ := hW; go_simp)⟩) ?_
            simp only [Act.put, List.setIfInBounds_toArray, List.set_cons_succ, List.set_cons_zero]
            refine wpAnyY_takeD (i := 8) 29 (v := .agg #[.int .i64 f1_x, .int .i64 f2_x]) rfl rfl (by kernel_rfl) (by kernel_rfl) (late_of (by kernel_rfl)) (by kernel_rfl) (by kernel_rfl) (fun _ _ _ h => h) (HSS2.out _ _ _ _ _ HS4.out (by simp) (by simp)) (Or.inl ⟨by rfl, by (intro W hW; obtain ⟨_, _, _, _, _, _⟩ := hW; go_simp)⟩) ?_
            simp only [Act.put, List.setIfInBounds_toArray, List.set_cons_succ, List.set_cons_zero]
            refine wpAnyY_one (i := 9) rfl (by kernel_rfl) (fun K hK => ?_)
            refine alloc109_step rfl rfl rfl ?_
            intro V5 g9 hV hG
            have HS6 : Hid (LS w O O2_x b s s2_x oc_x [(g9, mnL mn0, 109), (gd, [.int .i64 q1], 3), (g7, mnL m, 109), (g8, flL (0, 0), 32), (w.heap.size + 1 + 1, flL (0, 0), 32), (w.heap.size + 1, exL h2 la ln lc, 102), (w.heap.size, exL h ka kn kc, 102)] V5) := HS4.out.allocE (mnL mn0) 109 hV hG
            refine hK.out _ _ (fun _ => HSS2.out _ _ _ _ _ HS6.out (by simp) (by simp)) ?_
            clear hK K HS4 hV hG
            simp only [Act.put, List.setIfInBounds_toArray, List.set_cons_succ, List.set_cons_zero]
            refine wpAnyY_one (i := 10) rfl (by kernel_rfl) (fun K hK => ?_)
            have HF9 : Hid (LS w O O2_x b s s2_x oc_x [(g9, mnL mn0, 109), (gd, [.int .i64 q1], 3), (g7, mnL m, 109), (g8, flL (0, 0), 32), (w.heap.size + 1 + 1, flL (0, 0), 32), (w.heap.size + 1, exL h2 la ln lc, 102), (w.heap.size, exL h ka kn kc, 102)] V5) := HS6.out.front (L1 := []) (L2 := [(gd, [.int .i64 q1], 3), (g7, mnL m, 109), (g8, flL (0, 0), 32), (w.heap.size + 1 + 1, flL (0, 0), 32), (w.heap.size + 1, exL h2 la ln lc, 102), (w.heap.size, exL h ka kn kc, 102)]) rfl
            refine store109_step rfl rfl rfl rfl rfl (HF9.out.blk (List.mem_cons_self ..)) ?_
            intro V7 hV
            have HS8 : Hid (LS w O O2_x b s s2_x oc_x [(g9, mnL m_x, 109), (gd, [.int .i64 q1], 3), (g7, mnL m, 109), (g8, flL (0, 0), 32), (w.heap.size + 1 + 1, flL (0, 0), 32), (w.heap.size + 1, exL h2 la ln lc, 102), (w.heap.size, exL h ka kn kc, 102)] V7) := HF9.out.store109 m_x HR.out.2.2.1.symm (by rw [hV, HR.out.2.1, HR.out.2.2.2.1, HR.out.2.2.2.2])
            refine hK.out _ _ (fun _ => HSS2.out _ _ _ _ _ HS8.out (by simp) (by simp)) ?_
            clear hK K HS6 hV HF9
            refine wpAnyY_one (i := 11) rfl (by kernel_rfl) (fun K hK => ?_)
            have HF12 : Hid (LS w O O2_x b s s2_x oc_x [(g8, flL (0, 0), 32), (g9, mnL m_x, 109), (gd, [.int .i64 q1], 3), (g7, mnL m, 109), (w.heap.size + 1 + 1, flL (0, 0), 32), (w.heap.size + 1, exL h2 la ln lc, 102), (w.heap.size, exL h ka kn kc, 102)] V7) := HS8.out.front (L1 := [(g9, mnL m_x, 109), (gd, [.int .i64 q1], 3), (g7, mnL m, 109)]) (L2 := [(w.heap.size + 1 + 1, flL (0, 0), 32), (w.heap.size + 1, exL h2 la ln lc, 102), (w.heap.size, exL h ka kn kc, 102)]) rfl
            refine store32_step rfl rfl rfl rfl rfl (HF12.out.blk (List.mem_cons_self ..)) ?_
            intro V10 hV
            have HS11 : Hid (LS w O O2_x b s s2_x oc_x [(g8, flL (f1_x, f2_x), 32), (g9, mnL m_x, 109), (gd, [.int .i64 q1], 3), (g7, mnL m, 109), (w.heap.size + 1 + 1, flL (0, 0), 32), (w.heap.size + 1, exL h2 la ln lc, 102), (w.heap.size, exL h ka kn kc, 102)] V10) := HF12.out.store32 (f1_x, f2_x) hV
            refine hK.out _ _ (fun _ => HSS2.out _ _ _ _ _ HS11.out (by simp) (by simp)) ?_
            clear hK K HS8 hV HF12
            refine wpAnyY_done (by kernel_rfl) ?_ _
            go_wp2_with fail
            go_meet
            exact ⟨g9, mt_x, mx_x, mp_x, mn_x, f1_x, f2_x, rfl, m_x, oc_x, O2_x, s2_x, HR.out, HS11.out.sub (by simp) (by have := HS11.out.nd; simp at this ⊢; omega)⟩
          · refine alloc109_step rfl rfl rfl ?_
            intro V13 g9 hV hG
            have HS14 : Hid (LS w O O2 b s s2 (some c1) [(g9, mnL mn0, 109), (gd, [.int .i64 q1], 3), (g7, mnL m, 109), (g8, flL (0, 0), 32), (w.heap.size + 1 + 1, flL (0, 0), 32), (w.heap.size + 1, exL h2 la ln lc, 102), (w.heap.size, exL h ka kn kc, 102)] V13) := HS2.out.allocE (mnL mn0) 109 hV hG
            refine hK.out _ _ (fun _ => HSS2.out _ _ _ _ _ HS14.out (by simp) (by simp)) ?_
            clear hK K HS2 hV hG
            simp only [Act.put, List.setIfInBounds_toArray, List.set_cons_succ, List.set_cons_zero]
            refine wpAnyY_one (i := 5) rfl (by kernel_rfl) (fun K hK => ?_)
            refine call89_step rfl rfl rfl rfl rfl rfl ?_
            refine (HA3'.out _ _ _ _ gd HS14.out (by simp)).mono ?_
            rintro e V15 ⟨mt_x, mx_x, mp_x, mn_x, f1_x, f2_x, rfl, hV⟩
            refine ⟨_, rfl, ?_⟩
            obtain ⟨m_x, oc_x, O2_x, s2_x, hm, hRQ, hLS⟩ := hV.out
            have HS16 : Hid (LS w O O2_x b s s2_x oc_x [(g9, mnL mn0, 109), (gd, [.int .i64 q1], 3), (g7, mnL m, 109), (g8, flL (0, 0), 32), (w.heap.size + 1 + 1, flL (0, 0), 32), (w.heap.size + 1, exL h2 la ln lc, 102), (w.heap.size, exL h ka kn kc, 102)] V15) := hLS
            have HR : Hid (RQ r2 m_x (f1_x, f2_x) oc_x ∧ m_x.isText = mt_x ∧ bs m_x.text = mx_x ∧ m_x.place = mp_x ∧ m_x.num = mn_x) := ⟨hRQ, hm⟩
            refine hK.out _ _ (fun _ => HSS2.out _ _ _ _ _ HS16.out (by simp) (by simp)) ?_
            clear hK K HS14 hV hm hRQ hLS
            simp only [Act.put, List.setIfInBounds_toArray, List.set_cons_succ, List.set_cons_zero]
            refine wpAnyY_takeD (i := 6) 21 (v := .tuple #[.agg #[.bool mt_x, .string mx_x, .int .i64 mp_x, .int .i64 mn_x], .agg #[.int .i64 f1_x, .int .i64 f2_x]]) rfl rfl (by kernel_rfl) (by kernel_rfl) (late_of (by kernel_rfl)) (by kernel_rfl) (by kernel_rfl) (fun _ _ _ h => h) (HSS2.out _ _ _ _ _ HS16.out (by simp) (by simp)) (Or.inl ⟨by rfl, by (intro W hW; obtain ⟨_, _, _, _, _, _⟩ := hW; go_simp)⟩) ?_
            simp only [Act.put, List.setIfInBounds_toArray, List.set_cons_succ, List.set_cons_zero]
            refine wpAnyY_takeD (i := 7) 28 (v := .agg #[.bool mt_x, .string mx_x, .int .i64 mp_x, .int .i64 mn_x]) rfl rfl (by kernel_rfl) (by kernel_rfl) (late_of (by kernel_rfl)) (by kernel_rfl) (by kernel_rfl) (fun _ _ _ h => h) (HSS2.out _ _ _ _ _ HS16.out (by simp) (by simp)) (Or.inl ⟨by rfl, by (intro W hW; obtain ⟨_, _, _, _, _, _⟩ := hW; go_simp)⟩) ?_
            simp only [Act.put, List.setIfInBounds_toArray, List.set_cons_succ, List.set_cons_zero]
            refine wpAnyY_takeD (i := 8) 29 (v := .agg #[.int .i64 f1_x, .int .i64 f2_x]) rfl rfl (by kernel_rfl) (by kernel_rfl) (late_of (by kernel_rfl)) (by kernel_rfl) (by kernel_rfl) (fun _ _ _ h => h) (HSS2.out _ _ _ _ _ HS16.out (by simp) (by simp)) (Or.inl ⟨by rfl, by (intro W hW; obtain ⟨_, _, _, _, _, _⟩ := hW; go_simp)⟩) ?_
            simp only [Act.put, List.setIfInBounds_toArray, List.set_cons_succ, List.set_cons_zero]
            refine wpAnyY_one (i := 10) rfl (by kernel_rfl) (fun K hK => ?_)
            have HF19 : Hid (LS w O O2_x b s s2_x oc_x [(g9, mnL mn0, 109), (gd, [.int .i64 q1], 3), (g7, mnL m, 109), (g8, flL (0, 0), 32), (w.heap.size + 1 + 1, flL (0, 0), 32), (w.heap.size + 1, exL h2 la ln lc, 102), (w.heap.size, exL h ka kn kc, 102)] V15) := HS16.out.front (L1 := []) (L2 := [(gd, [.int .i64 q1], 3), (g7, mnL m, 109), (g8, flL (0, 0), 32), (w.heap.size + 1 + 1, flL (0, 0), 32), (w.heap.size + 1, exL h2 la ln lc, 102), (w.heap.size, exL h ka kn kc, 102)]) rfl
            refine store109_step rfl rfl rfl rfl rfl (HF19.out.blk (List.mem_cons_self ..)) ?_
            intro V17 hV
            have HS18 : Hid (LS w O O2_x b s s2_x oc_x [(g9, mnL m_x, 109), (gd, [.int .i64 q1], 3), (g7, mnL m, 109), (g8, flL (0, 0), 32), (w.heap.size + 1 + 1, flL (0, 0), 32), (w.heap.size + 1, exL h2 la ln lc, 102), (w.heap.size, exL h ka kn kc, 102)] V17) := HF19.out.store109 m_x HR.out.2.2.1.symm (by rw [hV, HR.out.2.1, HR.out.2.2.2.1, HR.out.2.2.2.2])
            refine hK.out _ _ (fun _ => HSS2.out _ _ _ _ _ HS18.out (by simp) (by simp)) ?_
            clear hK K HS16 hV HF19
            refine wpAnyY_one (i := 11) rfl (by kernel_rfl) (fun K hK => ?_)
            have HF22 : Hid (LS w O O2_x b s s2_x oc_x [(g8, flL (0, 0), 32), (g9, mnL m_x, 109), (gd, [.int .i64 q1], 3), (g7, mnL m, 109), (w.heap.size + 1 + 1, flL (0, 0), 32), (w.heap.size + 1, exL h2 la ln lc, 102), (w.heap.size, exL h ka kn kc, 102)] V17) := HS18.out.front (L1 := [(g9, mnL m_x, 109), (gd, [.int .i64 q1], 3), (g7, mnL m, 109)]) (L2 := [(w.heap.size + 1 + 1, flL (0, 0), 32), (w.heap.size + 1, exL h2 la ln lc, 102), (w.heap.size, exL h ka kn kc, 102)]) rfl
            refine store32_step rfl rfl rfl rfl rfl (HF22.out.blk (List.mem_cons_self ..)) ?_
            intro V20 hV
            have HS21 : Hid (LS w O O2_x b s s2_x oc_x [(g8, flL (f1_x, f2_x), 32), (g9, mnL m_x, 109), (gd, [.int .i64 q1], 3), (g7, mnL m, 109), (w.heap.size + 1 + 1, flL (0, 0), 32), (w.heap.size + 1, exL h2 la ln lc, 102), (w.heap.size, exL h ka kn kc, 102)] V20) := HF22.out.store32 (f1_x, f2_x) hV
            refine hK.out _ _ (fun _ => HSS2.out _ _ _ _ _ HS21.out (by simp) (by simp)) ?_
            clear hK K HS18 hV HF22
            refine wpAnyY_done (by kernel_rfl) ?_ _
            go_wp2_with fail
            go_meet
            exact ⟨g9, mt_x, mx_x, mp_x, mn_x, f1_x, f2_x, rfl, m_x, oc_x, O2_x, s2_x, HR.out, HS21.out.sub (by simp) (by have := HS21.out.nd; simp at this ⊢; omega)⟩
        · refine alloc109_step rfl rfl rfl ?_
          intro V23 g9 hV hG
          have HS24 : Hid (LS w O O2 b s s2 (some c1) [(g9, mnL mn0, 109), (g7, mnL m, 109), (g8, flL (0, 0), 32), (w.heap.size + 1 + 1, flL (0, 0), 32), (w.heap.size + 1, exL h2 la ln lc, 102), (w.heap.size, exL h ka kn kc, 102)] V23) := HS0.out.allocE (mnL mn0) 109 hV hG
          refine hK.out _ _ (fun _ => HSS2.out _ _ _ _ _ HS24.out (by simp) (by simp)) ?_
          clear hK K HS0 hV hG
          simp only [Act.put, List.setIfInBounds_toArray, List.set_cons_succ, List.set_cons_zero]
          refine wpAnyY_one (i := 4) rfl (by kernel_rfl) (fun K hK => ?_)
          refine call95t_step rfl rfl rfl rfl ?_
          intro V25 gd hV hG
          have HS26 : Hid (LS w O O2 b s s2 (some c1) [(gd, [.int .i64 q1], 3), (g9, mnL mn0, 109), (g7, mnL m, 109), (g8, flL (0, 0), 32), (w.heap.size + 1 + 1, flL (0, 0), 32), (w.heap.size + 1, exL h2 la ln lc, 102), (w.heap.size, exL h ka kn kc, 102)] V25) := HS24.out.allocE _ 3 hV hG
          refine hK.out _ _ (fun _ => HSS2.out _ _ _ _ _ HS26.out (by simp) (by simp)) ?_
          clear hK K HS24 hV hG
          simp only [Act.put, List.setIfInBounds_toArray, List.set_cons_succ, List.set_cons_zero]
          refine wpAnyY_one (i := 5) rfl (by kernel_rfl) (fun K hK => ?_)
          refine call89_step rfl rfl rfl rfl rfl rfl ?_
          refine (HA3'.out _ _ _ _ gd HS26.out (by simp)).mono ?_
          rintro e V27 ⟨mt_x, mx_x, mp_x, mn_x, f1_x, f2_x, rfl, hV⟩
          refine ⟨_, rfl, ?_⟩
          obtain ⟨m_x, oc_x, O2_x, s2_x, hm, hRQ, hLS⟩ := hV.out
          have HS28 : Hid (LS w O O2_x b s s2_x oc_x [(gd, [.int .i64 q1], 3), (g9, mnL mn0, 109), (g7, mnL m, 109), (g8, flL (0, 0), 32), (w.heap.size + 1 + 1, flL (0, 0), 32), (w.heap.size + 1, exL h2 la ln lc, 102), (w.heap.size, exL h ka kn kc, 102)] V27) := hLS
          have HR : Hid (RQ r2 m_x (f1_x, f2_x) oc_x ∧ m_x.isText = mt_x ∧ bs m_x.text = mx_x ∧ m_x.place = mp_x ∧ m_x.num = mn_x) := ⟨hRQ, hm⟩
          refine hK.out _ _ (fun _ => HSS2.out _ _ _ _ _ HS28.out (by simp) (by simp)) ?_
          clear hK K HS26 hV hm hRQ hLS
          simp only [Act.put, List.setIfInBounds_toArray, List.set_cons_succ, List.set_cons_zero]
          refine wpAnyY_takeD (i := 6) 21 (v := .tuple #[.agg #[.bool mt_x, .string mx_x, .int .i64 mp_x, .int .i64 mn_x], .agg #[.int .i64 f1_x, .int .i64 f2_x]]) rfl rfl (by kernel_rfl) (by kernel_rfl) (late_of (by kernel_rfl)) (by kernel_rfl) (by kernel_rfl) (fun _ _ _ h => h) (HSS2.out _ _ _ _ _ HS28.out (by simp) (by simp)) (Or.inl ⟨by rfl, by (intro W hW; obtain ⟨_, _, _, _, _, _⟩ := hW; go_simp)⟩) ?_
          simp only [Act.put, List.setIfInBounds_toArray, List.set_cons_succ, List.set_cons_zero]
          refine wpAnyY_takeD (i := 7) 28 (v := .agg #[.bool mt_x, .string mx_x, .int .i64 mp_x, .int .i64 mn_x]) rfl rfl (by kernel_rfl) (by kernel_rfl) (late_of (by kernel_rfl)) (by kernel_rfl) (by kernel_rfl) (fun _ _ _ h => h) (HSS2.out _ _ _ _ _ HS28.out (by simp) (by simp)) (Or.inl ⟨by rfl, by (intro W hW; obtain ⟨_, _, _, _, _, _⟩ := hW; go_simp)⟩) ?_
          simp only [Act.put, List.setIfInBounds_toArray, List.set_cons_succ, List.set_cons_zero]
          refine wpAnyY_takeD (i := 8) 29 (v := .agg #[.int .i64 f1_x, .int .i64 f2_x]) rfl rfl (by kernel_rfl) (by kernel_rfl) (late_of (by kernel_rfl)) (by kernel_rfl) (by kernel_rfl) (fun _ _ _ h => h) (HSS2.out _ _ _ _ _ HS28.out (by simp) (by simp)) (Or.inl ⟨by rfl, by (intro W hW; obtain ⟨_, _, _, _, _, _⟩ := hW; go_simp)⟩) ?_
          simp only [Act.put, List.setIfInBounds_toArray, List.set_cons_succ, List.set_cons_zero]
          refine wpAnyY_one (i := 10) rfl (by kernel_rfl) (fun K hK => ?_)
          have HF31 : Hid (LS w O O2_x b s s2_x oc_x [(g9, mnL mn0, 109), (gd, [.int .i64 q1], 3), (g7, mnL m, 109), (g8, flL (0, 0), 32), (w.heap.size + 1 + 1, flL (0, 0), 32), (w.heap.size + 1, exL h2 la ln lc, 102), (w.heap.size, exL h ka kn kc, 102)] V27) := HS28.out.front (L1 := [(gd, [.int .i64 q1], 3)]) (L2 := [(g7, mnL m, 109), (g8, flL (0, 0), 32), (w.heap.size + 1 + 1, flL (0, 0), 32), (w.heap.size + 1, exL h2 la ln lc, 102), (w.heap.size, exL h ka kn kc, 102)]) rfl
          refine store109_step rfl rfl rfl rfl rfl (HF31.out.blk (List.mem_cons_self ..)) ?_
          intro V29 hV
          have HS30 : Hid (LS w O O2_x b s s2_x oc_x [(g9, mnL m_x, 109), (gd, [.int .i64 q1], 3), (g7, mnL m, 109), (g8, flL (0, 0), 32), (w.heap.size + 1 + 1, flL (0, 0), 32), (w.heap.size + 1, exL h2 la ln lc, 102), (w.heap.size, exL h ka kn kc, 102)] V29) := HF31.out.store109 m_x HR.out.2.2.1.symm (by rw [hV, HR.out.2.1, HR.out.2.2.2.1, HR.out.2.2.2.2])
          refine hK.out _ _ (fun _ => HSS2.out _ _ _ _ _ HS30.out (by simp) (by simp)) ?_
          clear hK K HS28 hV HF31
          refine wpAnyY_one (i := 11) rfl (by kernel_rfl) (fun K hK => ?_)
          have HF34 : Hid (LS w O O2_x b s s2_x oc_x [(g8, flL (0, 0), 32), (g9, mnL m_x, 109), (gd, [.int .i64 q1], 3), (g7, mnL m, 109), (w.heap.size + 1 + 1, flL (0, 0), 32), (w.heap.size + 1, exL h2 la ln lc, 102), (w.heap.size, exL h ka kn kc, 102)] V29) := HS30.out.front (L1 := [(g9, mnL m_x, 109), (gd, [.int .i64 q1], 3), (g7, mnL m, 109)]) (L2 := [(w.heap.size + 1 + 1, flL (0, 0), 32), (w.heap.size + 1, exL h2 la ln lc, 102), (w.heap.size, exL h ka kn kc, 102)]) rfl
          refine store32_step rfl rfl rfl rfl rfl (HF34.out.blk (List.mem_cons_self ..)) ?_
          intro V32 hV
          have HS33 : Hid (LS w O O2_x b s s2_x oc_x [(g8, flL (f1_x, f2_x), 32), (g9, mnL m_x, 109), (gd, [.int .i64 q1], 3), (g7, mnL m, 109), (w.heap.size + 1 + 1, flL (0, 0), 32), (w.heap.size + 1, exL h2 la ln lc, 102), (w.heap.size, exL h ka kn kc, 102)] V32) := HF34.out.store32 (f1_x, f2_x) hV
          refine hK.out _ _ (fun _ => HSS2.out _ _ _ _ _ HS33.out (by simp) (by simp)) ?_
          clear hK K HS30 hV HF34
          refine wpAnyY_done (by kernel_rfl) ?_ _
          go_wp2_with fail
          go_meet
          exact ⟨g9, mt_x, mx_x, mp_x, mn_x, f1_x, f2_x, rfl, m_x, oc_x, O2_x, s2_x, HR.out, HS33.out.sub (by simp) (by have := HS33.out.nd; simp at this ⊢; omega)⟩
      case rest =>
        obtain ⟨g9, mt_x, mx_x, mp_x, mn_x, f1_x, f2_x, rfl, m_x, oc_x, O2_x, s2_x, ⟨hRQ, e1, e2, e3, e4⟩, hL⟩ := hcut
        clear HA3' HA3 HSS2 HS0
        cases r2 with
        | error f' =>
          obtain ⟨rfl, hf, -, rfl⟩ := hRQ
          have HX3 : Hid (bandB c (h, k) (h2, k2) = .error (f1_x, f2_x)) := HX2.out
          have HF : Hid (f1_x ≠ 0) := hf
          have hq : (f1_x == 0) = false := by rw [beq_eq_false_iff_ne]; exact hf
          have HL : Hid (LS w O O2_x b s s2_x none [(g9, mnL m_x, 109), (g7, mnL m, 109), (g8, flL (f1_x, f2_x), 32), (w.heap.size + 1 + 1, flL (0, 0), 32)] wc) := hL
          have y0 : wc.cell? ⟨g8, 0, none⟩ = some (.int .i64 f1_x) := HL.out.at (g := g8) (cs := flL (f1_x, f2_x)) (ty := 32) (by simp) rfl
          have y1 : wc.cell? ⟨g8, 1, none⟩ = some (.int .i64 f2_x) := HL.out.at (g := g8) (cs := flL (f1_x, f2_x)) (ty := 32) (by simp) rfl
          have z0 : wc.cell? ⟨w.heap.size + 1 + 1, 0, none⟩ = some (.int .i64 0) := HL.out.at (g := w.heap.size + 1 + 1) (cs := flL (0, 0)) (ty := 32) (by simp) rfl
          have z1 : wc.cell? ⟨w.heap.size + 1 + 1, 1, none⟩ = some (.int .i64 0) := HL.out.at (g := w.heap.size + 1 + 1) (cs := flL (0, 0)) (ty := 32) (by simp) rfl
          have zf : ∀ i, wc.frozen? ⟨w.heap.size + 1 + 1, i, none⟩ = false := fun i => HL.out.fz (g := w.heap.size + 1 + 1) (cs := flL (0, 0)) (ty := 32) (by simp) i
          clear HX2 hf hL e1 e2 e3 e4
          go_wp2
          refine bodyPost_ret (v := flV (f1_x, f2_x)) ?_ rfl ?_
          · simp only [results, hres]
            unfold flV
            simp only
            go_simp
          · show TPost _ _ _ _ _ _
            rw [HX3.out]
            exact ⟨HF.out, rfl, (HL.out.fr.setCell (.inr (by omega)) _ _).setCell (.inr (by omega)) _ _⟩
        | ok x =>
          obtain ⟨c2, m'⟩ := x
          obtain ⟨hf, rfl, rfl⟩ := hRQ
          cases hf
          obtain ⟨p1, hp1⟩ : ∃ p, p = m.place := ⟨_, rfl⟩
          obtain ⟨p2, hp2⟩ : ∃ p, p = m_x.place := ⟨_, rfl⟩
          have HX3 : Hid (bandB c (h, k) (h2, k2) = .ok { c2 with banded := true, lo := p1, hi := p2 }) := by show _ = _; rw [hp1, hp2]; exact HX2.out
          have HL : Hid (LS w O O2_x b s s2_x (some c2) [(g9, mnL m_x, 109), (g7, mnL m, 109), (g8, flL (0, 0), 32), (w.heap.size + 1 + 1, flL (0, 0), 32)] wc) := hL
          have y0 : wc.cell? ⟨g8, 0, none⟩ = some (.int .i64 0) := HL.out.at (g := g8) (cs := flL (0, 0)) (ty := 32) (by simp) rfl
          have HSS6 : Hid (∀ O' s' oc L W, LS w O O' b s s' oc L W → (g7, mnL m, 109) ∈ L → (g9, mnL m_x, 109) ∈ L → W.cell? ⟨g7, 2, none⟩ = some (.int .i64 p1) ∧ W.cell? ⟨g9, 2, none⟩ = some (.int .i64 p2)) := fun O' s' oc L W h1 h2 h3 => by
            rw [hp1, hp2]
            exact ⟨h1.at h2 rfl, h1.at h3 rfl⟩
          clear HX2 hL e1 e2 e3 e4 hp1 hp2
          go_upto_region 6 with (fail)
          clear y0
          have HS6 : Hid (LS w O O2_x b s s2_x (some c2) [(g9, mnL m_x, 109), (g7, mnL m, 109), (g8, flL (0, 0), 32), (w.heap.size + 1 + 1, flL (0, 0), 32)] wc.drew) := HL.out.drew
          clear HL
          refine wp_region_Y (fun j => [].contains j) (fun W => W.cell? ⟨g7, 2, none⟩ = some (.int .i64 p1) ∧ W.cell? ⟨g9, 2, none⟩ = some (.int .i64 p2)) (by kernel_rfl) ?_
          refine wpAnyY_takeD (i := 0) 33 (v := .pointer (some ⟨b, 0, none⟩)) rfl rfl (by kernel_rfl) (by kernel_rfl) (late_of (by kernel_rfl)) (by kernel_rfl) (by kernel_rfl) (fun _ _ _ h => h) (HSS6.out _ _ _ _ _ HS6.out (by simp) (by simp)) (Or.inl ⟨by rfl, by (intro W hW; obtain ⟨_, _⟩ := hW; go_simp)⟩) ?_
          simp only [Act.put, List.setIfInBounds_toArray, List.set_cons_succ, List.set_cons_zero]
          refine wpAnyY_takeD (i := 1) 34 (v := .pointer (some ⟨b, 0, none⟩)) rfl rfl (by kernel_rfl) (by kernel_rfl) (late_of (by kernel_rfl)) (by kernel_rfl) (by kernel_rfl) (fun _ _ _ h => h) (HSS6.out _ _ _ _ _ HS6.out (by simp) (by simp)) (Or.inl ⟨by rfl, by (intro W hW; obtain ⟨_, _⟩ := hW; go_simp)⟩) ?_
          simp only [Act.put, List.setIfInBounds_toArray, List.set_cons_succ, List.set_cons_zero]
          refine wpAnyY_takeD (i := 2) 35 (v := .pointer (some ⟨b, 0, none⟩)) rfl rfl (by kernel_rfl) (by kernel_rfl) (late_of (by kernel_rfl)) (by kernel_rfl) (by kernel_rfl) (fun _ _ _ h => h) (HSS6.out _ _ _ _ _ HS6.out (by simp) (by simp)) (Or.inl ⟨by rfl, by (intro W hW; obtain ⟨_, _⟩ := hW; go_simp)⟩) ?_
          simp only [Act.put, List.setIfInBounds_toArray, List.set_cons_succ, List.set_cons_zero]
          refine wpAnyY_takeD (i := 3) 36 (v := .pointer (some ⟨g7, 2, none⟩)) rfl rfl (by kernel_rfl) (by kernel_rfl) (late_of (by kernel_rfl)) (by kernel_rfl) (by kernel_rfl) (fun _ _ _ h => h) (HSS6.out _ _ _ _ _ HS6.out (by simp) (by simp)) (Or.inl ⟨by rfl, by (intro W hW; obtain ⟨_, _⟩ := hW; go_simp)⟩) ?_
          simp only [Act.put, List.setIfInBounds_toArray, List.set_cons_succ, List.set_cons_zero]
          refine wpAnyY_takeD (i := 4) 37 (v := .int .i64 p1) rfl rfl (by kernel_rfl) (by kernel_rfl) (late_of (by kernel_rfl)) (by kernel_rfl) (by kernel_rfl) (fun _ _ _ h => h) (HSS6.out _ _ _ _ _ HS6.out (by simp) (by simp)) (Or.inl ⟨by rfl, by (intro W hW; obtain ⟨_, _⟩ := hW; go_simp)⟩) ?_
          simp only [Act.put, List.setIfInBounds_toArray, List.set_cons_succ, List.set_cons_zero]
          refine wpAnyY_takeD (i := 5) 38 (v := .pointer (some ⟨g9, 2, none⟩)) rfl rfl (by kernel_rfl) (by kernel_rfl) (late_of (by kernel_rfl)) (by kernel_rfl) (by kernel_rfl) (fun _ _ _ h => h) (HSS6.out _ _ _ _ _ HS6.out (by simp) (by simp)) (Or.inl ⟨by rfl, by (intro W hW; obtain ⟨_, _⟩ := hW; go_simp)⟩) ?_
          simp only [Act.put, List.setIfInBounds_toArray, List.set_cons_succ, List.set_cons_zero]
          refine wpAnyY_takeD (i := 6) 39 (v := .int .i64 p2) rfl rfl (by kernel_rfl) (by kernel_rfl) (late_of (by kernel_rfl)) (by kernel_rfl) (by kernel_rfl) (fun _ _ _ h => h) (HSS6.out _ _ _ _ _ HS6.out (by simp) (by simp)) (Or.inl ⟨by rfl, by (intro W hW; obtain ⟨_, _⟩ := hW; go_simp)⟩) ?_
          simp only [Act.put, List.setIfInBounds_toArray, List.set_cons_succ, List.set_cons_zero]
          refine wpAnyY_takeD (i := 7) 40 (v := .pointer (some ⟨b, 0, none⟩)) rfl rfl (by kernel_rfl) (by kernel_rfl) (late_of (by kernel_rfl)) (by kernel_rfl) (by kernel_rfl) (fun _ _ _ h => h) (HSS6.out _ _ _ _ _ HS6.out (by simp) (by simp)) (Or.inl ⟨by rfl, by (intro W hW; obtain ⟨_, _⟩ := hW; go_simp)⟩) ?_
          simp only [Act.put, List.setIfInBounds_toArray, List.set_cons_succ, List.set_cons_zero]
          refine wpAnyY_takeD (i := 8) 41 (v := .pointer (some ⟨b, 0, none⟩)) rfl rfl (by kernel_rfl) (by kernel_rfl) (late_of (by kernel_rfl)) (by kernel_rfl) (by kernel_rfl) (fun _ _ _ h => h) (HSS6.out _ _ _ _ _ HS6.out (by simp) (by simp)) (Or.inl ⟨by rfl, by (intro W hW; obtain ⟨_, _⟩ := hW; go_simp)⟩) ?_
          simp only [Act.put, List.setIfInBounds_toArray, List.set_cons_succ, List.set_cons_zero]
          refine wpAnyY_takeD (i := 9) 42 (v := .pointer (some ⟨b, 5, none⟩)) rfl rfl (by kernel_rfl) (by kernel_rfl) (late_of (by kernel_rfl)) (by kernel_rfl) (by kernel_rfl) (fun _ _ _ h => h) (HSS6.out _ _ _ _ _ HS6.out (by simp) (by simp)) (Or.inl ⟨by rfl, by (intro W hW; obtain ⟨_, _⟩ := hW; go_simp)⟩) ?_
          simp only [Act.put, List.setIfInBounds_toArray, List.set_cons_succ, List.set_cons_zero]
          refine wpAnyY_one (i := 10) rfl (by kernel_rfl) (fun K hK => ?_)
          refine storeB_step rfl rfl rfl rfl ((HS6.out.ck _ rfl).1.c5) ((HS6.out.ck _ rfl).1.fz 5) ?_
          intro V1 hV
          have HS2 : Hid (LS w O O2_x b s s2_x (some { c2 with banded := true }) [(g9, mnL m_x, 109), (g7, mnL m, 109), (g8, flL (0, 0), 32), (w.heap.size + 1 + 1, flL (0, 0), 32)] V1) := by subst hV; exact HS6.out.putB rfl rfl rfl rfl rfl rfl (by have h := (HS6.out.ck _ rfl).2.1; exact ⟨h.vals, h.same, h.few, h.names, h.alpha, h.sub, h.pcs⟩)
          refine hK.out _ _ (fun _ => HSS6.out _ _ _ _ _ HS2.out (by simp) (by simp)) ?_
          clear hK K HS6 hV
          refine wpAnyY_takeD (i := 11) 43 (v := .pointer (some ⟨b, 0, none⟩)) rfl rfl (by kernel_rfl) (by kernel_rfl) (late_of (by kernel_rfl)) (by kernel_rfl) (by kernel_rfl) (fun _ _ _ h => h) (HSS6.out _ _ _ _ _ HS2.out (by simp) (by simp)) (Or.inl ⟨by rfl, by (intro W hW; obtain ⟨_, _⟩ := hW; go_simp)⟩) ?_
          simp only [Act.put, List.setIfInBounds_toArray, List.set_cons_succ, List.set_cons_zero]
          refine wpAnyY_takeD (i := 12) 44 (v := .pointer (some ⟨b, 0, none⟩)) rfl rfl (by kernel_rfl) (by kernel_rfl) (late_of (by kernel_rfl)) (by kernel_rfl) (by kernel_rfl) (fun _ _ _ h => h) (HSS6.out _ _ _ _ _ HS2.out (by simp) (by simp)) (Or.inl ⟨by rfl, by (intro W hW; obtain ⟨_, _⟩ := hW; go_simp)⟩) ?_
          simp only [Act.put, List.setIfInBounds_toArray, List.set_cons_succ, List.set_cons_zero]
          refine wpAnyY_takeD (i := 13) 45 (v := .pointer (some ⟨b, 6, none⟩)) rfl rfl (by kernel_rfl) (by kernel_rfl) (late_of (by kernel_rfl)) (by kernel_rfl) (by kernel_rfl) (fun _ _ _ h => h) (HSS6.out _ _ _ _ _ HS2.out (by simp) (by simp)) (Or.inl ⟨by rfl, by (intro W hW; obtain ⟨_, _⟩ := hW; go_simp)⟩) ?_
          simp only [Act.put, List.setIfInBounds_toArray, List.set_cons_succ, List.set_cons_zero]
          refine wpAnyY_one (i := 14) rfl (by kernel_rfl) (fun K hK => ?_)
          refine storeI_step rfl rfl rfl rfl rfl ((HS2.out.ck _ rfl).1.c6) ((HS2.out.ck _ rfl).1.fz 6) ?_
          intro V3 hV
          have HS4 : Hid (LS w O O2_x b s s2_x (some { c2 with banded := true, lo := p1 }) [(g9, mnL m_x, 109), (g7, mnL m, 109), (g8, flL (0, 0), 32), (w.heap.size + 1 + 1, flL (0, 0), 32)] V3) := by subst hV; exact HS2.out.putB rfl rfl rfl rfl rfl rfl (by have h := (HS2.out.ck _ rfl).2.1; exact ⟨h.vals, h.same, h.few, h.names, h.alpha, h.sub, h.pcs⟩)
          refine hK.out _ _ (fun _ => HSS6.out _ _ _ _ _ HS4.out (by simp) (by simp)) ?_
          clear hK K HS2 hV
          refine wpAnyY_takeD (i := 15) 46 (v := .pointer (some ⟨b, 0, none⟩)) rfl rfl (by kernel_rfl) (by kernel_rfl) (late_of (by kernel_rfl)) (by kernel_rfl) (by kernel_rfl) (fun _ _ _ h => h) (HSS6.out _ _ _ _ _ HS4.out (by simp) (by simp)) (Or.inl ⟨by rfl, by (intro W hW; obtain ⟨_, _⟩ := hW; go_simp)⟩) ?_
          simp only [Act.put, List.setIfInBounds_toArray, List.set_cons_succ, List.set_cons_zero]
          refine wpAnyY_takeD (i := 16) 47 (v := .pointer (some ⟨b, 0, none⟩)) rfl rfl (by kernel_rfl) (by kernel_rfl) (late_of (by kernel_rfl)) (by kernel_rfl) (by kernel_rfl) (fun _ _ _ h => h) (HSS6.out _ _ _ _ _ HS4.out (by simp) (by simp)) (Or.inl ⟨by rfl, by (intro W hW; obtain ⟨_, _⟩ := hW; go_simp)⟩) ?_
          simp only [Act.put, List.setIfInBounds_toArray, List.set_cons_succ, List.set_cons_zero]
          refine wpAnyY_takeD (i := 17) 48 (v := .pointer (some ⟨b, 7, none⟩)) rfl rfl (by kernel_rfl) (by kernel_rfl) (late_of (by kernel_rfl)) (by kernel_rfl) (by kernel_rfl) (fun _ _ _ h => h) (HSS6.out _ _ _ _ _ HS4.out (by simp) (by simp)) (Or.inl ⟨by rfl, by (intro W hW; obtain ⟨_, _⟩ := hW; go_simp)⟩) ?_
          simp only [Act.put, List.setIfInBounds_toArray, List.set_cons_succ, List.set_cons_zero]
          refine wpAnyY_one (i := 18) rfl (by kernel_rfl) (fun K hK => ?_)
          refine storeI_step rfl rfl rfl rfl rfl ((HS4.out.ck _ rfl).1.c7) ((HS4.out.ck _ rfl).1.fz 7) ?_
          intro V5 hV
          have HS6 : Hid (LS w O O2_x b s s2_x (some { c2 with banded := true, lo := p1, hi := p2 }) [(g9, mnL m_x, 109), (g7, mnL m, 109), (g8, flL (0, 0), 32), (w.heap.size + 1 + 1, flL (0, 0), 32)] V5) := by subst hV; exact HS4.out.putB rfl rfl rfl rfl rfl rfl (by have h := (HS4.out.ck _ rfl).2.1; exact ⟨h.vals, h.same, h.few, h.names, h.alpha, h.sub, h.pcs⟩)
          refine hK.out _ _ (fun _ => HSS6.out _ _ _ _ _ HS6.out (by simp) (by simp)) ?_
          clear hK K HS4 hV
          refine wpAnyY_done (by kernel_rfl) ?_ _
          have y0 : V5.cell? ⟨g8, 0, none⟩ = some (.int .i64 0) := HS6.out.at (g := g8) (cs := flL (0, 0)) (ty := 32) (by simp) rfl
          have y1 : V5.cell? ⟨g8, 1, none⟩ = some (.int .i64 0) := HS6.out.at (g := g8) (cs := flL (0, 0)) (ty := 32) (by simp) rfl
          have z0 : V5.cell? ⟨w.heap.size + 1 + 1, 0, none⟩ = some (.int .i64 0) := HS6.out.at (g := w.heap.size + 1 + 1) (cs := flL (0, 0)) (ty := 32) (by simp) rfl
          have z1 : V5.cell? ⟨w.heap.size + 1 + 1, 1, none⟩ = some (.int .i64 0) := HS6.out.at (g := w.heap.size + 1 + 1) (cs := flL (0, 0)) (ty := 32) (by simp) rfl
          have zf : ∀ i, V5.frozen? ⟨w.heap.size + 1 + 1, i, none⟩ = false := fun i => HS6.out.fz (g := w.heap.size + 1 + 1) (cs := flL (0, 0)) (ty := 32) (by simp) i
          have HZ : Hid (LS w O O2_x b s s2_x (some { c2 with banded := true, lo := p1, hi := p2 }) [(g9, mnL m_x, 109), (g7, mnL m, 109), (g8, flL (0, 0), 32), (w.heap.size + 1 + 1, flL (0, 0), 32)] V5) := HS6.out
          generalize V5 = VZ at *
          go_wp2
          refine bodyPost_ret (v := flV (0, 0)) ?_ rfl ?_
          · simp only [results, hres]
            unfold flV
            simp only
            go_simp
          · show TPost _ _ _ _ _ _
            rw [HX3.out]
            have hoff := (HZ.out.loc (w.heap.size + 1 + 1, flL (0, 0), 32) (by simp)).1.off
            exact ⟨rfl, (HZ.out.fr.setCell (.inr (by omega)) _ _).setCell (.inr (by omega)) _ _, O2_x, s2_x, HZ.out.new, ck_set (ck_set (HZ.out.ck _ rfl).1 hoff _ _) hoff _ _⟩

end Go.Proofs.YtlaodgdlkkmmeaaGreat
namespace Go.Proofs.YtlaodgdlkkmmeaaGreat
open Go.RowKit Go.Deep Go.Maps

theorem codeC_calls (l : List UInt8) (x : UInt8) (b : Nat) (w : World) (hb : w.cell? ⟨b, 0, none⟩ = some (.string (bs l))) (hl : l.length ≤ maxLen) :
    Calls Tryz.prog 93 #[.pointer (some ⟨b, 0, none⟩), .int .u8 (x.toNat : Int)] w fun e w' => e = .returned (.int .i64 (codeU l x)) ∧ ∃ n, w' = w.drewN n := by
  have H := Al.code_calls (bs l) (x.toNat : Int) w (by rw [bs_size]; exact hl) (by omega) (by have := UInt8.toNat_lt x; omega)
  rw [bs_list] at H
  unfold codeU
  generalize Al.codeB l (x.toNat : Int) = cd at *
  go_enter Tryz.func93, Tryz.ntmps93
  go_wp2_with (go_at_call 125; refine H.mono ?_; rintro e w' ⟨rfl, hd⟩; have HD : Hid (∃ n, w' = w.drewN n) := hd; clear hd)
  go_ret
  exact ⟨rfl, Hid.out (by assumption)⟩
theorem isPair_two {l t : List UInt8} (h : isPair l t = true) : ∃ x y, t = [x, y] ∧ 0 ≤ codeU l x ∧ 0 ≤ codeU l y := by
  unfold isPair at h
  split at h
  · rename_i x y
    simp at h
    exact ⟨x, y, rfl, h.1, h.2⟩
  · cases h
theorem isPair_not {l t : List UInt8} (h : t.length ≠ 2) : isPair l t = false := by
  unfold isPair
  split
  · simp at h
  · rfl
set_option maxRecDepth 20000 in
set_option maxHeartbeats 2000000 in
theorem pair1_calls (l t : List UInt8) (gc b : Nat) (w : World) (hg : w.cell? ⟨gc, 0, none⟩ = some (.pointer (some ⟨b, 0, none⟩))) (hb : w.cell? ⟨b, 0, none⟩ = some (.string (bs l))) (hl : l.length ≤ maxLen) (ht : t.length ≤ maxLen) :
    Calls Tryz.prog 92 #[.string (bs t), .pointer (some ⟨gc, 0, none⟩)] w fun e w' => e = .returned (.bool (isPair l t)) ∧ ∃ n, w' = w.drewN n := by
  by_cases h2 : t.length = 2
  · obtain ⟨x, y, rfl⟩ : ∃ x y, t = [x, y] := by
      match t, h2 with
      | [x, y], _ => exact ⟨x, y, rfl⟩
    have HC1 : Hid (∀ n, Calls Tryz.prog 93 #[.pointer (some ⟨b, 0, none⟩), .int .u8 (x.toNat : Int)] (w.drewN n) fun e w' => e = .returned (.int .i64 (codeU l x)) ∧ ∃ m, w' = w.drewN m) := fun n => Calls.quiet_of (codeC_calls l x b _ hb hl)
    have HC2 : Hid (∀ n, Calls Tryz.prog 93 #[.pointer (some ⟨b, 0, none⟩), .int .u8 (y.toNat : Int)] (w.drewN n) fun e w' => e = .returned (.int .i64 (codeU l y)) ∧ ∃ m, w' = w.drewN m) := fun n => Calls.quiet_of (codeC_calls l y b _ hb hl)
    obtain ⟨bt, hbt⟩ : ∃ bt, bt = bs [x, y] := ⟨_, rfl⟩
    have hsz : bt.size = 2 := by rw [hbt]; rfl
    have hi0 : bt[0]'(by omega) = x := by subst hbt; rfl
    have hi1 : bt[1]'(by omega) = y := by subst hbt; rfl
    rw [← hbt]
    have hip : isPair l [x, y] = (decide (0 ≤ codeU l x) && decide (0 ≤ codeU l y)) := rfl
    rw [hip]
    obtain ⟨cx, hcx⟩ : ∃ cx, cx = codeU l x := ⟨_, rfl⟩
    obtain ⟨cy, hcy⟩ : ∃ cy, cy = codeU l y := ⟨_, rfl⟩
    rw [← hcx] at HC1 ⊢
    rw [← hcy] at HC2 ⊢
    clear hip hbt h2 ht hcx hcy
    by_cases hx : 0 ≤ cx
    · have hdx : decide (0 ≤ cx) = true := by simpa using hx
      by_cases hy : 0 ≤ cy
      · have hdy : decide (0 ≤ cy) = true := by simpa using hy
        go_enter Tryz.func92, Tryz.ntmps92
        go_wp2_with fail
        go_quiet (first | (go_at_call 93; with_reducible exact HC1.out _) | (go_at_call 93; with_reducible exact HC2.out _))
        go_wp2
        go_ret
        exact ⟨by rw [hdx, hdy]; rfl, nq, rfl⟩
      · have hdy : decide (0 ≤ cy) = false := by simpa using hy
        go_enter Tryz.func92, Tryz.ntmps92
        go_wp2_with fail
        go_quiet (first | (go_at_call 93; with_reducible exact HC1.out _) | (go_at_call 93; with_reducible exact HC2.out _))
        go_wp2
        go_ret
        exact ⟨by rw [hdx, hdy]; rfl, nq, rfl⟩
    · have hdx : decide (0 ≤ cx) = false := by simpa using hx
      go_enter Tryz.func92, Tryz.ntmps92
      go_wp2_with fail
      go_quiet (first | (go_at_call 93; with_reducible exact HC1.out _) | (go_at_call 93; with_reducible exact HC2.out _))
      go_wp2
      go_ret
      exact ⟨by rw [hdx]; rfl, nq, rfl⟩
  · rw [isPair_not h2]
    have hsz : ((bs t).size : Int) ≠ 2 := by rw [bs_size]; omega
    obtain ⟨bt, hbt⟩ : ∃ bt, bt = bs t := ⟨_, rfl⟩
    rw [← hbt] at hsz ⊢
    have hq : ((bt.size : Int) == 2) = false := by rw [beq_eq_false_iff_ne]; exact hsz
    have hq2 : decide ((bt.size : Int) = 2) = false := by simpa using hsz
    clear hbt
    go_enter Tryz.func92, Tryz.ntmps92
    go_wp2_with fail
    go_quiet (fail)
    go_wp2
    go_ret
    exact ⟨rfl, nq, rfl⟩
end Go.Proofs.YtlaodgdlkkmmeaaGreat
