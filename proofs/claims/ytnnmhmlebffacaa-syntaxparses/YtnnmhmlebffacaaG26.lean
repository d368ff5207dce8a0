/-
  The document's Depth, SameExpr, placesExpr. SameExpr of the document.
-/
import Derived.Test.YtnnmhmlebffacaaG04
import Derived.Test.YtnnmhmlebffacaaG25
namespace Go.Proofs.Ytnnmhmlebffacaa
open Go.RowKit Go.Deep

set_option maxRecDepth 20000 in
set_option maxHeartbeats 2000000 in
theorem depthR_calls : ∀ (N : Nat) (e : Ex) (ka : Option Addr) (kn kc : Nat) (w : World) (o : Bool) (S : Nat → Prop), ExAt o S w e ka kn → szF e.2 < N →
    Calls Try.prog 20 #[.agg #[.int .i64 e.1.kind, .int .i64 e.1.num, .string (bs e.1.text), .slice ka kn kc, .int .i64 e.1.pl]] w fun e' w' => e' = .returned (.int .i64 (wrap64 (depW e.2 + 1))) ∧ Below w.heap.size w w'
  | 0, _, _, _, _, _, _, _, _, h => by omega
  | N + 1, e, ka, kn, kc, w, o, S, hE, hN => by
    have IH : Hid (∀ (e : Ex) (ka : Option Addr) (kn kc : Nat) (w : World), ExAt o S w e ka kn → szF e.2 < N →
      Calls Try.prog 20 #[.agg #[.int .i64 e.1.kind, .int .i64 e.1.num, .string (bs e.1.text), .slice ka kn kc, .int .i64 e.1.pl]] w fun e' w' => e' = .returned (.int .i64 (wrap64 (depW e.2 + 1))) ∧ Below w.heap.size w w') := fun e ka kn kc w h1 h2 => depthR_calls N e ka kn kc w o S h1 h2
    obtain ⟨g, off, hka, hF⟩ := foAt_addr hE.kids
    have hkm := hE.few
    unfold maxLen at hkm
    have HF : Hid (FoAt o S w e.2 (some ⟨g, off + 0 * 5, none⟩) (kn - 0) ∧ szF e.2 ≤ N) := ⟨hF, by omega⟩
    generalize hD : depW e.2 = D at *
    have HD : Hid (depW e.2 = D) := hD
    generalize e.2 = F at *
    generalize e.1 = hd at *
    clear hF hE hN hD
    have hbx : Below w.heap.size w (w.alloc (.cells #[.int .i64 hd.kind, .int .i64 hd.num, .string (bs hd.text), .slice ka kn kc, .int .i64 hd.pl] 35)) := (Below.refl _ _).alloc (Nat.le_refl _) _
    have HB : Hid (Below w.heap.size w (w.alloc (.cells #[.int .i64 hd.kind, .int .i64 hd.num, .string (bs hd.text), .slice ka kn kc, .int .i64 hd.pl] 35)) ∧ (w.alloc (.cells #[.int .i64 hd.kind, .int .i64 hd.num, .string (bs hd.text), .slice ka kn kc, .int .i64 hd.pl] 35)).heap[w.heap.size]? = some (.cells #[.int .i64 hd.kind, .int .i64 hd.num, .string (bs hd.text), .slice ka kn kc, .int .i64 hd.pl] 35 (0, 0))) := ⟨hbx, heap_alloc_new w _⟩
    have HF2 : Hid (FoAt o S (w.alloc (.cells #[.int .i64 hd.kind, .int .i64 hd.num, .string (bs hd.text), .slice ka kn kc, .int .i64 hd.pl] 35)) F (some ⟨g, off + 0 * 5, none⟩) (kn - 0) ∧ szF F ≤ N) := ⟨HF.out.1.below hbx, HF.out.2⟩
    clear hbx HF
    go_enter Try.func20, Try.ntmps20
    go_wp2_with fail
    go_loopg [3, 4] kn (fun k dv iv wr => ∃ (G : Fo) (i : Nat) (d : Int), 0 ≤ d ∧ dv = .int .i64 d ∧ iv = .int .i64 (i : Int) ∧ i + k = kn ∧ Hid (FoAt o S wr G (some ⟨g, off + i * 5, none⟩) (kn - i) ∧ szF G ≤ N ∧ max d (depW G) = D ∧ Below w.heap.size w wr ∧ wr.heap[w.heap.size]? = some (.cells #[.int .i64 hd.kind, .int .i64 hd.num, .string (bs hd.text), .slice ka kn kc, .int .i64 hd.pl] 35 (0, 0))))
    case atStart => exact ⟨F, 0, 0, Int.le_refl _, rfl, rfl, by omega, HF2.out.1, HF2.out.2, by rw [← HD.out]; have := depW_pos F; omega, HB.out.1, HB.out.2⟩
    case round =>
      clear HF2 HB HD
      obtain ⟨G, i, d, hd0, rfl, rfl, hik, HT⟩ := hrel
      have bx := blk (i := 3) HT.out.2.2.2.2 rfl
      by_cases hi : i < kn
      · have hdi : decide ((i : Int) < (kn : Int)) = true := by simp; omega
        obtain ⟨b0, o0, h2, k2, r2, ka2, kc2, kk2, rfl, -, hok, hkc, ⟨c0, c1, c2, c3, c4⟩, hk2, hr2⟩ := foAt_head HT.out.1 hi
        have hka2 := hka (by omega)
        subst hka2
        have HE2 : Hid (ExAt o S wr (h2, k2) ka2 kc2) := ⟨hok, hkc, hk2⟩
        have HR : Hid (FoAt o S wr r2 (some ⟨g, off + (i + 1) * 5, none⟩) (kn - (i + 1)) ∧ szF k2 < N ∧ szF r2 ≤ N ∧ max d (max (wrap64 (depW k2 + 1)) (depW r2)) = D ∧ Below w.heap.size w wr ∧ wr.heap[w.heap.size]? = some (.cells #[.int .i64 hd.kind, .int .i64 hd.num, .string (bs hd.text), .slice (some ⟨g, off, none⟩) kn kc, .int .i64 hd.pl] 35 (0, 0))) := by
          obtain ⟨_, h3, h4, h5, h6⟩ := HT.out
          simp only [szF] at h3
          exact ⟨hr2, by omega, by omega, h4, h5, h6⟩
        clear HT hk2 hr2 hok hkc
        go_wp2_with fail
        refine (IH.out (h2, k2) ka2 kc2 kk2 _ HE2.out HR.out.2.1).mono ?_
        rintro e' w3 ⟨rfl, hb3⟩
        have HR3 : Hid (FoAt o S w3 r2 (some ⟨g, off + (i + 1) * 5, none⟩) (kn - (i + 1)) ∧ szF r2 ≤ N ∧ max (max d (wrap64 (depW k2 + 1))) (depW r2) = D ∧ Below w.heap.size w w3 ∧ w3.heap[w.heap.size]? = some (.cells #[.int .i64 hd.kind, .int .i64 hd.num, .string (bs hd.text), .slice (some ⟨g, off, none⟩) kn kc, .int .i64 hd.pl] 35 (0, 0))) := by
          refine ⟨HR.out.1.below hb3, HR.out.2.2.1, ?_, HR.out.2.2.2.2.1.trans (hb3.mono HR.out.2.2.2.2.1.size), by rw [hb3.block _ (lt_block HR.out.2.2.2.2.2)]; exact HR.out.2.2.2.2.2⟩
          have := HR.out.2.2.2.1
          omega
        clear hb3 HR HE2 bx
        generalize wrap64 (depW k2 + 1) = dk at *
        go_wp2_with fail
        go_roundg (gk - 1)
        case measure => omega
        case rel => exact ⟨r2, i + 1, max d dk, by omega, rfl, by go_num, by omega, HR3.out⟩
      · have hdi : decide ((i : Int) < (kn : Int)) = false := by simp; omega
        have HX : Hid (d = D ∧ Below w.heap.size w wr) := by
          obtain ⟨h1, _, h3, h4, _⟩ := HT.out
          have : kn - i = 0 := by omega
          rw [this] at h1
          cases G with
          | nil => simp only [depW] at h3; exact ⟨by omega, h4⟩
          | node b0 o0 h2 k r => obtain ⟨_, _, _, _, _, m, hm, _⟩ := h1; omega
        clear HT
        go_wp2
        go_ret
        refine ⟨ret_int ?_, HX.out.2⟩
        rw [HX.out.1]

/-- Expressions but for places. -/
def sameE (a b : Ex) : Bool := sameH a.1 b.1 && sameF a.2 b.2
/-- The places of two lists that are the same. -/
def plF : Fo → Fo → Bool
  | .node _ _ h k r, .node _ _ h' k' r' => decide (h.pl = h'.pl) && (plF k k' && plF r r')
  | _, _ => true
def plE (a b : Ex) : Bool := decide (a.1.pl = b.1.pl) && plF a.2 b.2
theorem below_two (w : World) (o o' : Obj) : Below w.heap.size w ((w.alloc o).alloc o') := ((Below.refl _ _).alloc (Nat.le_refl _) o).alloc (by simp) o'
theorem twoN_new (w : World) (o o' : Obj) : ((w.alloc o).alloc o').heap[w.heap.size + 1]? = some o' := by
  have := heap_alloc_new (w.alloc o) o'
  rwa [show (w.alloc o).heap.size = w.heap.size + 1 by simp] at this

end Go.Proofs.Ytnnmhmlebffacaa
namespace Go.Proofs.Ytnnmhmlebffacaa
open Go.RowKit Go.Deep

set_option maxRecDepth 20000 in
set_option maxHeartbeats 8000000 in
theorem sameE_calls : ∀ (N : Nat) (e f : Ex) (ao bo : Option Addr) (n c m d : Nat) (w : World) (o o' : Bool) (S S' : Nat → Prop), ExAt o S w e ao n → ExAt o' S' w f bo m → szF e.2 < N →
    Calls Try.prog 35 #[.agg #[.int .i64 e.1.kind, .int .i64 e.1.num, .string (bs e.1.text), .slice ao n c, .int .i64 e.1.pl], .agg #[.int .i64 f.1.kind, .int .i64 f.1.num, .string (bs f.1.text), .slice bo m d, .int .i64 f.1.pl]] w fun e' w' => e' = .returned (.bool (sameE e f)) ∧ Below w.heap.size w w'
  | 0, _, _, _, _, _, _, _, _, _, _, _, _, _, _, _, h => by omega
  | N + 1, e, f, ao, bo, n, c, m, d, w, o, o', S, S', hE, hF, hN => by
    have IH : Hid (∀ (e f : Ex) (ao bo : Option Addr) (n c m d : Nat) (w : World), ExAt o S w e ao n → ExAt o' S' w f bo m → szF e.2 < N →
      Calls Try.prog 35 #[.agg #[.int .i64 e.1.kind, .int .i64 e.1.num, .string (bs e.1.text), .slice ao n c, .int .i64 e.1.pl], .agg #[.int .i64 f.1.kind, .int .i64 f.1.num, .string (bs f.1.text), .slice bo m d, .int .i64 f.1.pl]] w fun e' w' => e' = .returned (.bool (sameE e f)) ∧ Below w.heap.size w w') := fun e f ao bo n c m d w h1 h2 h3 => sameE_calls N e f ao bo n c m d w o o' S S' h1 h2 h3
    have hn2 := hE.few
    have hm2 := hF.few
    unfold maxLen at hn2 hm2
    have hln := foAt_len hE.kids
    have hlm := foAt_len hF.kids
    obtain ⟨g, off, hka, hF'⟩ := foAt_addr hE.kids
    obtain ⟨g', off', hkb, hG'⟩ := foAt_addr hF.kids
    have HFG : Hid (FoAt o S w e.2 (some ⟨g, off + 0 * 5, none⟩) (n - 0) ∧ FoAt o' S' w f.2 (some ⟨g', off' + 0 * 5, none⟩) (m - 0) ∧ szF e.2 ≤ N) := ⟨hF', hG', by omega⟩
    obtain ⟨hd, F⟩ := e
    obtain ⟨he, G⟩ := f
    simp only at hln hlm
    generalize hD : sameF F G = D
    have HD : Hid (sameF F G = D) := hD
    have HLn : Hid (n = lenF F ∧ m = lenF G) := ⟨hln, hlm⟩
    clear hE hF hN hD hF' hG' hln hlm
    have HB0 : Hid (∀ o o', Below w.heap.size w ((w.alloc o).alloc o')) := fun o o' => below_two w o o'
    by_cases e1 : hd.kind = he.kind
    case neg =>
      have q1 : (hd.kind != he.kind) = true := by simpa using e1
      have HX : Hid (sameE (hd, F) (he, G) = false) := by show sameE _ _ = false; simp [sameE, sameH, e1]
      clear e1 HFG IH HD HLn
      go_enter Try.func35, Try.ntmps35
      go_wp2
      go_ret
      exact ⟨ret_bool HX.out.symm, HB0.out _ _⟩
    have q1 : (hd.kind != he.kind) = false := by simp [e1]
    by_cases e2 : hd.num = he.num
    case neg =>
      have q2 : (hd.num != he.num) = true := by simpa using e2
      have HX : Hid (sameE (hd, F) (he, G) = false) := by show sameE _ _ = false; simp [sameE, sameH, e2]
      clear e1 e2 HFG IH HD HLn
      go_enter Try.func35, Try.ntmps35
      go_wp2
      go_ret
      exact ⟨ret_bool HX.out.symm, HB0.out _ _⟩
    have q2 : (hd.num != he.num) = false := by simp [e2]
    by_cases e3 : hd.text = he.text
    case neg =>
      have q3 : ((bs hd.text).toList == (bs he.text).toList) = false := by rw [bs_toList, bs_toList, beq_eq_false_iff_ne]; exact e3
      have HX : Hid (sameE (hd, F) (he, G) = false) := by show sameE _ _ = false; simp [sameE, sameH, e3]
      clear e1 e2 e3 HFG IH HD HLn
      go_enter Try.func35, Try.ntmps35
      go_wp2
      go_ret
      exact ⟨ret_bool HX.out.symm, HB0.out _ _⟩
    have q3 : ((bs hd.text).toList == (bs he.text).toList) = true := by rw [e3]; simp
    have HR0 : Hid (sameE (hd, F) (he, G) = D) := by
      show sameE _ _ = D
      rw [← HD.out]; simp [sameE, sameH, e1, e2, e3]
    clear e1 e2 e3
    by_cases hnm : n = m
    case neg =>
      have q4 : ((n : Int) != (m : Int)) = true := by simp; omega
      have HX : Hid (sameE (hd, F) (he, G) = false) := by
        show sameE _ _ = false
        have := sameF_len F G (by rw [← HLn.out.1, ← HLn.out.2]; exact hnm)
        simp [sameE, this]
      clear hnm HFG IH HD HLn HR0
      go_enter Try.func35, Try.ntmps35
      go_wp2
      go_ret
      exact ⟨ret_bool HX.out.symm, HB0.out _ _⟩
    subst hnm
    have q4 : ((n : Int) != (n : Int)) = false := by simp
    clear HLn
    have H0 : Hid (FoAt o S ((w.alloc (.cells #[.int .i64 hd.kind, .int .i64 hd.num, .string (bs hd.text), .slice ao n c, .int .i64 hd.pl] 35)).alloc (.cells #[.int .i64 he.kind, .int .i64 he.num, .string (bs he.text), .slice bo n d, .int .i64 he.pl] 35)) F (some ⟨g, off + 0 * 5, none⟩) (n - 0) ∧ FoAt o' S' ((w.alloc (.cells #[.int .i64 hd.kind, .int .i64 hd.num, .string (bs hd.text), .slice ao n c, .int .i64 hd.pl] 35)).alloc (.cells #[.int .i64 he.kind, .int .i64 he.num, .string (bs he.text), .slice bo n d, .int .i64 he.pl] 35)) G (some ⟨g', off' + 0 * 5, none⟩) (n - 0) ∧ szF F ≤ N ∧ sameF F G = D ∧ Below w.heap.size w ((w.alloc (.cells #[.int .i64 hd.kind, .int .i64 hd.num, .string (bs hd.text), .slice ao n c, .int .i64 hd.pl] 35)).alloc (.cells #[.int .i64 he.kind, .int .i64 he.num, .string (bs he.text), .slice bo n d, .int .i64 he.pl] 35)) ∧ ((w.alloc (.cells #[.int .i64 hd.kind, .int .i64 hd.num, .string (bs hd.text), .slice ao n c, .int .i64 hd.pl] 35)).alloc (.cells #[.int .i64 he.kind, .int .i64 he.num, .string (bs he.text), .slice bo n d, .int .i64 he.pl] 35)).heap[w.heap.size]? = some (.cells #[.int .i64 hd.kind, .int .i64 hd.num, .string (bs hd.text), .slice ao n c, .int .i64 hd.pl] 35 (0, 0)) ∧ ((w.alloc (.cells #[.int .i64 hd.kind, .int .i64 hd.num, .string (bs hd.text), .slice ao n c, .int .i64 hd.pl] 35)).alloc (.cells #[.int .i64 he.kind, .int .i64 he.num, .string (bs he.text), .slice bo n d, .int .i64 he.pl] 35)).heap[w.heap.size + 1]? = some (.cells #[.int .i64 he.kind, .int .i64 he.num, .string (bs he.text), .slice bo n d, .int .i64 he.pl] 35 (0, 0))) := by
      have hb := below_two w (.cells #[.int .i64 hd.kind, .int .i64 hd.num, .string (bs hd.text), .slice ao n c, .int .i64 hd.pl] 35) (.cells #[.int .i64 he.kind, .int .i64 he.num, .string (bs he.text), .slice bo n d, .int .i64 he.pl] 35)
      exact ⟨HFG.out.1.below hb, HFG.out.2.1.below hb, HFG.out.2.2, HD.out, hb, heap_old (heap_alloc_new w _), twoN_new w _ _⟩
    clear HFG HD
    go_enter Try.func35, Try.ntmps35
    go_wp2_with fail
    go_loopg [5] n (fun k iv wr => ∃ (F' G' : Fo) (i : Nat), iv = .int .i64 (i : Int) ∧ i + k = n ∧ Hid (FoAt o S wr F' (some ⟨g, off + i * 5, none⟩) (n - i) ∧ FoAt o' S' wr G' (some ⟨g', off' + i * 5, none⟩) (n - i) ∧ szF F' ≤ N ∧ sameF F' G' = D ∧ Below w.heap.size w wr ∧ wr.heap[w.heap.size]? = some (.cells #[.int .i64 hd.kind, .int .i64 hd.num, .string (bs hd.text), .slice ao n c, .int .i64 hd.pl] 35 (0, 0)) ∧ wr.heap[w.heap.size + 1]? = some (.cells #[.int .i64 he.kind, .int .i64 he.num, .string (bs he.text), .slice bo n d, .int .i64 he.pl] 35 (0, 0))))
    case atStart => exact ⟨F, G, 0, rfl, by omega, H0.out⟩
    case round =>
      clear H0
      obtain ⟨F', G', i, rfl, hik, HT⟩ := hrel
      obtain ⟨v1, v2, v3, v4, v5, v6, v8⟩ := HT.out
      have HV : Hid (Below w.heap.size w wr ∧ wr.heap[w.heap.size]? = some (.cells #[.int .i64 hd.kind, .int .i64 hd.num, .string (bs hd.text), .slice ao n c, .int .i64 hd.pl] 35 (0, 0)) ∧ wr.heap[w.heap.size + 1]? = some (.cells #[.int .i64 he.kind, .int .i64 he.num, .string (bs he.text), .slice bo n d, .int .i64 he.pl] 35 (0, 0))) := ⟨v5, v6, v8⟩
      have ba := blk (i := 3) v6 rfl
      have bb := blk (i := 3) v8 rfl
      by_cases hi : i < n
      · have hdi : decide ((i : Int) < (n : Int)) = true := by simp; omega
        obtain ⟨b1, o1, h1, k1, r1, ka1, kc1, kk1, rfl, -, hok1, hkc1, ⟨c0, c1, c2, c3, c4⟩, hk1, hr1⟩ := foAt_head v1 hi
        obtain ⟨b2, o2, h2, k2, r2, ka2, kc2, kk2, rfl, -, hok2, hkc2, ⟨d0, d1, d2, d3, d4⟩, hk2, hr2⟩ := foAt_head v2 hi
        have hka2 := hka (by omega)
        have hkb2 := hkb (by omega)
        subst hka2
        subst hkb2
        have HR : Hid (FoAt o S wr r1 (some ⟨g, off + (i + 1) * 5, none⟩) (n - (i + 1)) ∧ FoAt o' S' wr r2 (some ⟨g', off' + (i + 1) * 5, none⟩) (n - (i + 1)) ∧ szF k1 < N ∧ szF r1 ≤ N ∧ (sameH h1 h2 && (sameF k1 k2 && sameF r1 r2)) = D) := by
          simp only [szF] at v3
          skip
          exact ⟨hr1, hr2, by omega, by omega, v4⟩
        have HKd : Hid (∀ W, Below wr.heap.size wr W → Calls Try.prog 35 #[.agg #[.int .i64 h1.kind, .int .i64 h1.num, .string (bs h1.text), .slice ka1 kc1 kk1, .int .i64 h1.pl], .agg #[.int .i64 h2.kind, .int .i64 h2.num, .string (bs h2.text), .slice ka2 kc2 kk2, .int .i64 h2.pl]] W fun e' w' => e' = .returned (.bool (sameE (h1, k1) (h2, k2))) ∧ Below W.heap.size W w') := fun W hW => IH.out (h1, k1) (h2, k2) ka1 ka2 kc1 kk1 kc2 kk2 W ⟨hok1, hkc1, hk1.below hW⟩ ⟨hok2, hkc2, hk2.below hW⟩ HR.out.2.2.1
        have HKD : Hid ((sameE (h1, k1) (h2, k2) && sameF r1 r2) = D) := by
          show _ = D
          rw [← HR.out.2.2.2.2]; simp [sameE, Bool.and_assoc]
        have HS0 : Hid (Below wr.heap.size wr wr.drew) := (Below.refl _ _).drew
        clear HT hk1 hk2 hr1 hr2 hok1 hok2 hkc1 hkc2 IH v1 v2 v3 v4 v5 v6 v8
        go_wp2_with fail
        refine wp_region_X 11 (Below wr.heap.size wr) (by kernel_rfl) ?_
        refine wpAnyX_take (i := 0) (v := .pointer (some ⟨w.heap.size, 3, none⟩)) rfl (by kernel_rfl) (by kernel_rfl) (by kernel_rfl) (by kernel_rfl) (by kernel_rfl) (fun _ _ _ h => h) HS0.out (Or.inl ⟨by rfl, by (intro W hW; go_simp)⟩) ?_
        simp only [Act.put]
        refine wpAnyX_take (i := 1) (v := .slice (some ⟨g, off, none⟩) n c) rfl (by kernel_rfl) (by kernel_rfl) (by kernel_rfl) (by kernel_rfl) (by kernel_rfl) (fun _ _ _ h => h) HS0.out (Or.inl ⟨by rfl, by (intro W hW; have z := keepc hW ba; go_simp)⟩) ?_
        simp only [Act.put]
        refine wpAnyX_take (i := 2) (v := .int .i64 (i : Int)) rfl (by kernel_rfl) (by kernel_rfl) (by kernel_rfl) (by kernel_rfl) (by kernel_rfl) (fun _ _ _ h => h) HS0.out (Or.inl ⟨by rfl, by (intro W hW; go_simp)⟩) ?_
        simp only [Act.put]
        refine wpAnyX_take (i := 3) (v := .pointer (some ⟨g, off + i * 5, none⟩)) rfl (by kernel_rfl) (by kernel_rfl) (by kernel_rfl) (by kernel_rfl) (by kernel_rfl) (fun _ _ _ h => h) HS0.out (Or.inl ⟨by rfl, by (intro W hW; go_simp)⟩) ?_
        simp only [Act.put]
        refine wpAnyX_take (i := 4) (v := .agg #[.int .i64 h1.kind, .int .i64 h1.num, .string (bs h1.text), .slice ka1 kc1 kk1, .int .i64 h1.pl]) rfl (by kernel_rfl) (by kernel_rfl) (by kernel_rfl) (by kernel_rfl) (by kernel_rfl) (fun _ _ _ h => h) HS0.out (Or.inl ⟨by rfl, by (intro W hW; have z0 := keepc hW c0; have z1 := keepc hW c1; have z2 := keepc hW c2; have z3 := keepc hW c3; have z4 := keepc hW c4; go_simp)⟩) ?_
        simp only [Act.put]
        refine wpAnyX_take (i := 5) (v := .pointer (some ⟨w.heap.size + 1, 3, none⟩)) rfl (by kernel_rfl) (by kernel_rfl) (by kernel_rfl) (by kernel_rfl) (by kernel_rfl) (fun _ _ _ h => h) HS0.out (Or.inl ⟨by rfl, by (intro W hW; go_simp)⟩) ?_
        simp only [Act.put]
        refine wpAnyX_take (i := 6) (v := .slice (some ⟨g', off', none⟩) n d) rfl (by kernel_rfl) (by kernel_rfl) (by kernel_rfl) (by kernel_rfl) (by kernel_rfl) (fun _ _ _ h => h) HS0.out (Or.inl ⟨by rfl, by (intro W hW; have z := keepc hW bb; go_simp)⟩) ?_
        simp only [Act.put]
        refine wpAnyX_take (i := 7) (v := .int .i64 (i : Int)) rfl (by kernel_rfl) (by kernel_rfl) (by kernel_rfl) (by kernel_rfl) (by kernel_rfl) (fun _ _ _ h => h) HS0.out (Or.inl ⟨by rfl, by (intro W hW; go_simp)⟩) ?_
        simp only [Act.put]
        refine wpAnyX_take (i := 8) (v := .pointer (some ⟨g', off' + i * 5, none⟩)) rfl (by kernel_rfl) (by kernel_rfl) (by kernel_rfl) (by kernel_rfl) (by kernel_rfl) (fun _ _ _ h => h) HS0.out (Or.inl ⟨by rfl, by (intro W hW; go_simp)⟩) ?_
        simp only [Act.put]
        refine wpAnyX_take (i := 9) (v := .agg #[.int .i64 h2.kind, .int .i64 h2.num, .string (bs h2.text), .slice ka2 kc2 kk2, .int .i64 h2.pl]) rfl (by kernel_rfl) (by kernel_rfl) (by kernel_rfl) (by kernel_rfl) (by kernel_rfl) (fun _ _ _ h => h) HS0.out (Or.inl ⟨by rfl, by (intro W hW; have z0 := keepc hW d0; have z1 := keepc hW d1; have z2 := keepc hW d2; have z3 := keepc hW d3; have z4 := keepc hW d4; go_simp)⟩) ?_
        simp only [Act.put]
        clear c0 c1 c2 c3 c4 d0 d1 d2 d3 d4 ba bb
        cases hk : sameE (h1, k1) (h2, k2) with
        | true =>
          have HKx : Hid (Calls Try.prog 35 #[.agg #[.int .i64 h1.kind, .int .i64 h1.num, .string (bs h1.text), .slice ka1 kc1 kk1, .int .i64 h1.pl], .agg #[.int .i64 h2.kind, .int .i64 h2.num, .string (bs h2.text), .slice ka2 kc2 kk2, .int .i64 h2.pl]] wr.drew fun e' w' => e' = .returned (.bool true) ∧ Below wr.heap.size wr w') := by
            have h := HKd.out _ HS0.out
            rw [hk] at h
            exact h.mono fun e' w' ⟨h1, h2⟩ => ⟨h1, HS0.out.trans (h2.mono HS0.out.size)⟩
          have HX : Hid (sameF r1 r2 = D) := by
            show sameF r1 r2 = D
            have := HKD.out
            rw [hk] at this
            simpa using this
          clear hk HKd HKD
          refine wpAnyX_one (i := 10) rfl (by kernel_rfl) (fun K hK => ?_)
          go_simp
          refine HKx.out.mono ?_
          rintro e' w3 ⟨rfl, hb3⟩
          refine hK.out _ _ (fun _ => hb3) ?_
          clear hK K
          refine wpAnyX_one (i := 11) rfl (by kernel_rfl) (fun K hK => ?_)
          go_simp
          refine hK.out _ _ (fun h => absurd rfl h) ?_
          clear hK K
          refine wpAnyX_done (by kernel_rfl) ?_ _
          have HN : Hid (FoAt o S w3 r1 (some ⟨g, off + (i + 1) * 5, none⟩) (n - (i + 1)) ∧ FoAt o' S' w3 r2 (some ⟨g', off' + (i + 1) * 5, none⟩) (n - (i + 1)) ∧ szF r1 ≤ N ∧ sameF r1 r2 = D ∧ Below w.heap.size w w3 ∧ w3.heap[w.heap.size]? = some (.cells #[.int .i64 hd.kind, .int .i64 hd.num, .string (bs hd.text), .slice (some ⟨g, off, none⟩) n c, .int .i64 hd.pl] 35 (0, 0)) ∧ w3.heap[w.heap.size + 1]? = some (.cells #[.int .i64 he.kind, .int .i64 he.num, .string (bs he.text), .slice (some ⟨g', off', none⟩) n d, .int .i64 he.pl] 35 (0, 0))) := by
            obtain ⟨a1, a2, _, a4, _⟩ := HR.out
            obtain ⟨u1, u2, u3⟩ := HV.out
            exact ⟨a1.below hb3, a2.below hb3, a4, HX.out, u1.trans (hb3.mono u1.size), by rw [hb3.block _ (lt_block u2)]; exact u2, by rw [hb3.block _ (lt_block u3)]; exact u3⟩
          clear hb3 HR HKx HX HV HS0
          go_wp2_with fail
          go_roundg (gk - 1)
          case measure => omega
          case rel => exact ⟨r1, r2, i + 1, by go_num, by omega, HN.out⟩
        | false =>
          have HKx : Hid (Calls Try.prog 35 #[.agg #[.int .i64 h1.kind, .int .i64 h1.num, .string (bs h1.text), .slice ka1 kc1 kk1, .int .i64 h1.pl], .agg #[.int .i64 h2.kind, .int .i64 h2.num, .string (bs h2.text), .slice ka2 kc2 kk2, .int .i64 h2.pl]] wr.drew fun e' w' => e' = .returned (.bool false) ∧ Below wr.heap.size wr w') := by
            have h := HKd.out _ HS0.out
            rw [hk] at h
            exact h.mono fun e' w' ⟨h1, h2⟩ => ⟨h1, HS0.out.trans (h2.mono HS0.out.size)⟩
          have HX : Hid (D = false) := by
            show D = false
            have := HKD.out
            rw [hk] at this
            simpa using this.symm
          clear hk HKd HKD
          refine wpAnyX_one (i := 10) rfl (by kernel_rfl) (fun K hK => ?_)
          go_simp
          refine HKx.out.mono ?_
          rintro e' w3 ⟨rfl, hb3⟩
          refine hK.out _ _ (fun _ => hb3) ?_
          clear hK K
          refine wpAnyX_one (i := 11) rfl (by kernel_rfl) (fun K hK => ?_)
          go_simp
          refine hK.out _ _ (fun h => absurd rfl h) ?_
          clear hK K
          refine wpAnyX_done (by kernel_rfl) ?_ _
          have HN : Hid (Below w.heap.size w w3) := HV.out.1.trans (hb3.mono HV.out.1.size)
          clear hb3 HR HKx HV HS0
          go_wp2
          go_ret
          exact ⟨ret_bool (by rw [HR0.out, HX.out]), HN.out⟩
      · have hdi : decide ((i : Int) < (n : Int)) = false := by simp; omega
        have HX : Hid (D = true) := by
          show D = true
          rw [show n - i = 0 by omega] at v1 v2
          rw [foAt_end v1, foAt_end v2] at v4
          exact v4.symm
        clear HT v1 v2 v3 v4 v5 v6 v8
        go_wp2
        go_ret
        exact ⟨ret_bool (by rw [HR0.out, HX.out]), HV.out.1⟩

end Go.Proofs.Ytnnmhmlebffacaa
