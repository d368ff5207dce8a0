/-
  placesExpr of the document. The document's Same and Places.
-/
import Derived.Test.YtnnmhmlebffacaaG26
namespace Go.Proofs.Ytnnmhmlebffacaa
open Go.RowKit Go.Deep

set_option maxRecDepth 20000 in
set_option maxHeartbeats 8000000 in
theorem plE_calls : ∀ (N : Nat) (e f : Ex) (ao bo : Option Addr) (n c m d : Nat) (w : World) (o o' : Bool) (S S' : Nat → Prop), ExAt o S w e ao n → ExAt o' S' w f bo m → szF e.2 < N → sameF e.2 f.2 = true →
    Calls Try.prog 49 #[.agg #[.int .i64 e.1.kind, .int .i64 e.1.num, .string (bs e.1.text), .slice ao n c, .int .i64 e.1.pl], .agg #[.int .i64 f.1.kind, .int .i64 f.1.num, .string (bs f.1.text), .slice bo m d, .int .i64 f.1.pl]] w fun e' w' => e' = .returned (.bool (plE e f)) ∧ Below w.heap.size w w'
  | 0, _, _, _, _, _, _, _, _, _, _, _, _, _, _, _, h, _ => by omega
  | N + 1, e, f, ao, bo, n, c, m, d, w, o, o', S, S', hE, hF, hN, hsm => by
    have IH : Hid (∀ (e f : Ex) (ao bo : Option Addr) (n c m d : Nat) (w : World), ExAt o S w e ao n → ExAt o' S' w f bo m → szF e.2 < N → sameF e.2 f.2 = true →
      Calls Try.prog 49 #[.agg #[.int .i64 e.1.kind, .int .i64 e.1.num, .string (bs e.1.text), .slice ao n c, .int .i64 e.1.pl], .agg #[.int .i64 f.1.kind, .int .i64 f.1.num, .string (bs f.1.text), .slice bo m d, .int .i64 f.1.pl]] w fun e' w' => e' = .returned (.bool (plE e f)) ∧ Below w.heap.size w w') := fun e f ao bo n c m d w h1 h2 h3 h4 => plE_calls N e f ao bo n c m d w o o' S S' h1 h2 h3 h4
    have hn2 := hE.few
    have hm2 := hF.few
    unfold maxLen at hn2 hm2
    have hln := foAt_len hE.kids
    have hlm := foAt_len hF.kids
    obtain ⟨g, off, hka, hF'⟩ := foAt_addr hE.kids
    obtain ⟨g', off', hkb, hG'⟩ := foAt_addr hF.kids
    have HFG : Hid (FoAt o S w e.2 (some ⟨g, off + 0 * 5, none⟩) (n - 0) ∧ FoAt o' S' w f.2 (some ⟨g', off' + 0 * 5, none⟩) (m - 0) ∧ szF e.2 ≤ N ∧ sameF e.2 f.2 = true) := ⟨hF', hG', by omega, hsm⟩
    obtain ⟨hd, F⟩ := e
    obtain ⟨he, G⟩ := f
    simp only at hln hlm
    generalize hD : plF F G = D
    have HD : Hid (plF F G = D) := hD
    have HLn : Hid (n = m) := by
      show n = m
      rw [hln, hlm]
      rcases Classical.em (lenF F = lenF G) with h | h
      · exact h
      · rw [sameF_len F G h] at hsm; cases hsm
    clear hE hF hN hD hF' hG' hln hlm hsm
    have HB0 : Hid (∀ o o', Below w.heap.size w ((w.alloc o).alloc o')) := fun o o' => below_two w o o'
    by_cases e1 : hd.pl = he.pl
    case neg =>
      have q1 : (hd.pl != he.pl) = true := by simpa using e1
      have HX : Hid (plE (hd, F) (he, G) = false) := by show plE _ _ = false; simp [plE, e1]
      clear e1 HFG IH HD HLn
      go_enter Try.func49, Try.ntmps49
      go_wp2
      go_ret
      exact ⟨ret_bool HX.out.symm, HB0.out _ _⟩
    have q1 : (hd.pl != he.pl) = false := by simp [e1]
    have HR0 : Hid (plE (hd, F) (he, G) = D) := by
      show plE _ _ = D
      rw [← HD.out]; simp [plE, e1]
    have hnm := HLn.out
    subst hnm
    clear e1 HLn
    have H0 : Hid (FoAt o S ((w.alloc (.cells #[.int .i64 hd.kind, .int .i64 hd.num, .string (bs hd.text), .slice ao n c, .int .i64 hd.pl] 35)).alloc (.cells #[.int .i64 he.kind, .int .i64 he.num, .string (bs he.text), .slice bo n d, .int .i64 he.pl] 35)) F (some ⟨g, off + 0 * 5, none⟩) (n - 0) ∧ FoAt o' S' ((w.alloc (.cells #[.int .i64 hd.kind, .int .i64 hd.num, .string (bs hd.text), .slice ao n c, .int .i64 hd.pl] 35)).alloc (.cells #[.int .i64 he.kind, .int .i64 he.num, .string (bs he.text), .slice bo n d, .int .i64 he.pl] 35)) G (some ⟨g', off' + 0 * 5, none⟩) (n - 0) ∧ szF F ≤ N ∧ plF F G = D ∧ sameF F G = true ∧ Below w.heap.size w ((w.alloc (.cells #[.int .i64 hd.kind, .int .i64 hd.num, .string (bs hd.text), .slice ao n c, .int .i64 hd.pl] 35)).alloc (.cells #[.int .i64 he.kind, .int .i64 he.num, .string (bs he.text), .slice bo n d, .int .i64 he.pl] 35)) ∧ ((w.alloc (.cells #[.int .i64 hd.kind, .int .i64 hd.num, .string (bs hd.text), .slice ao n c, .int .i64 hd.pl] 35)).alloc (.cells #[.int .i64 he.kind, .int .i64 he.num, .string (bs he.text), .slice bo n d, .int .i64 he.pl] 35)).heap[w.heap.size]? = some (.cells #[.int .i64 hd.kind, .int .i64 hd.num, .string (bs hd.text), .slice ao n c, .int .i64 hd.pl] 35 (0, 0)) ∧ ((w.alloc (.cells #[.int .i64 hd.kind, .int .i64 hd.num, .string (bs hd.text), .slice ao n c, .int .i64 hd.pl] 35)).alloc (.cells #[.int .i64 he.kind, .int .i64 he.num, .string (bs he.text), .slice bo n d, .int .i64 he.pl] 35)).heap[w.heap.size + 1]? = some (.cells #[.int .i64 he.kind, .int .i64 he.num, .string (bs he.text), .slice bo n d, .int .i64 he.pl] 35 (0, 0))) := by
      have hb := below_two w (.cells #[.int .i64 hd.kind, .int .i64 hd.num, .string (bs hd.text), .slice ao n c, .int .i64 hd.pl] 35) (.cells #[.int .i64 he.kind, .int .i64 he.num, .string (bs he.text), .slice bo n d, .int .i64 he.pl] 35)
      exact ⟨HFG.out.1.below hb, HFG.out.2.1.below hb, HFG.out.2.2.1, HD.out, HFG.out.2.2.2, hb, heap_old (heap_alloc_new w _), twoN_new w _ _⟩
    clear HFG HD
    go_enter Try.func49, Try.ntmps49
    go_wp2_with fail
    go_loopg [5] n (fun k iv wr => ∃ (F' G' : Fo) (i : Nat), iv = .int .i64 (i : Int) ∧ i + k = n ∧ Hid (FoAt o S wr F' (some ⟨g, off + i * 5, none⟩) (n - i) ∧ FoAt o' S' wr G' (some ⟨g', off' + i * 5, none⟩) (n - i) ∧ szF F' ≤ N ∧ plF F' G' = D ∧ sameF F' G' = true ∧ Below w.heap.size w wr ∧ wr.heap[w.heap.size]? = some (.cells #[.int .i64 hd.kind, .int .i64 hd.num, .string (bs hd.text), .slice ao n c, .int .i64 hd.pl] 35 (0, 0)) ∧ wr.heap[w.heap.size + 1]? = some (.cells #[.int .i64 he.kind, .int .i64 he.num, .string (bs he.text), .slice bo n d, .int .i64 he.pl] 35 (0, 0))))
    case atStart => exact ⟨F, G, 0, rfl, by omega, H0.out⟩
    case round =>
      clear H0
      obtain ⟨F', G', i, rfl, hik, HT⟩ := hrel
      obtain ⟨v1, v2, v3, v4, v7, v5, v6, v8⟩ := HT.out
      have HV : Hid (Below w.heap.size w wr ∧ wr.heap[w.heap.size]? = some (.cells #[.int .i64 hd.kind, .int .i64 hd.num, .string (bs hd.text), .slice ao n c, .int .i64 hd.pl] 35 (0, 0)) ∧ wr.heap[w.heap.size + 1]? = some (.cells #[.int .i64 he.kind, .int .i64 he.num, .string (bs he.text), .slice bo n d, .int .i64 he.pl] 35 (0, 0))) := ⟨v5, v6, v8⟩
      have ba := blk (i := 3) v6 rfl
      have bb := blk (i := 3) v8 rfl
      by_cases hi : i < n
      · have hdi : decide ((i : Int) < (n : Int)) = true := by simp; omega
        obtain ⟨b1, o1, h1, k1, r1, ka1, kc1, kk1, rfl, -, hok1, hkc1, ⟨c0, c1, c2, c3, c4⟩, hk1, hr1⟩ := foAt_head v1 hi
        obtain ⟨b2, o2, h2, k2, r2, ka2, kc2, kk2, rfl, -, hok2, hkc2, ⟨d0, d1, d2, d3, d4⟩, hk2, hr2⟩ := foAt_head v2 hi
        have hka2 := hka (by omega)
        have hkb2 := hkb (by omega)
        subst hka2
        subst hkb2
        have HR : Hid (FoAt o S wr r1 (some ⟨g, off + (i + 1) * 5, none⟩) (n - (i + 1)) ∧ FoAt o' S' wr r2 (some ⟨g', off' + (i + 1) * 5, none⟩) (n - (i + 1)) ∧ szF k1 < N ∧ szF r1 ≤ N ∧ (decide (h1.pl = h2.pl) && (plF k1 k2 && plF r1 r2)) = D ∧ sameF k1 k2 = true ∧ sameF r1 r2 = true) := by
          simp only [szF] at v3
          simp only [sameF, Bool.and_eq_true] at v7
          exact ⟨hr1, hr2, by omega, by omega, v4, v7.2.1, v7.2.2⟩
        have HKd : Hid (∀ W, Below wr.heap.size wr W → Calls Try.prog 49 #[.agg #[.int .i64 h1.kind, .int .i64 h1.num, .string (bs h1.text), .slice ka1 kc1 kk1, .int .i64 h1.pl], .agg #[.int .i64 h2.kind, .int .i64 h2.num, .string (bs h2.text), .slice ka2 kc2 kk2, .int .i64 h2.pl]] W fun e' w' => e' = .returned (.bool (plE (h1, k1) (h2, k2))) ∧ Below W.heap.size W w') := fun W hW => IH.out (h1, k1) (h2, k2) ka1 ka2 kc1 kk1 kc2 kk2 W ⟨hok1, hkc1, hk1.below hW⟩ ⟨hok2, hkc2, hk2.below hW⟩ HR.out.2.2.1 HR.out.2.2.2.2.2.1
        have HKD : Hid ((plE (h1, k1) (h2, k2) && plF r1 r2) = D) := by
          show _ = D
          rw [← HR.out.2.2.2.2.1]; simp [plE, Bool.and_assoc]
        have HS0 : Hid (Below wr.heap.size wr wr.drew) := (Below.refl _ _).drew
        clear HT hk1 hk2 hr1 hr2 hok1 hok2 hkc1 hkc2 IH v1 v2 v3 v4 v5 v6 v8 v7
        go_wp2_with fail
        refine wp_region_X 11 (Below wr.heap.size wr) (by kernel_rfl) ?_
        refine wpAnyX_take (i := 0) (v := .pointer (some ⟨w.heap.size, 3, none⟩)) rfl (by kernel_rfl) (by kernel_rfl) (by kernel_rfl) (by kernel_rfl) (by kernel_rfl) (fun _ _ _ h => h) HS0.out (Or.inl ⟨by rfl, by (intro W hW; go_simp)⟩) ?_
        simp only [Act.put]
        refine wpAnyX_take (i := 1) (v := .slice (some ⟨g, off, none⟩) n c) rfl (by kernel_rfl) (by kernel_rfl) (by kernel_rfl) (by kernel_rfl) (by kernel_rfl) (fun _ _ _ h => h) HS0.out (Or.inl ⟨by rfl, by (intro W hW; have z := keepc hW ba; go_simp)⟩) ?_
        simp only [Act.put]
        refine wpAnyX_take (i := 2) (v := .int .i64 (i : Int)) rfl (by kernel_rfl) (by kernel_rfl) (by kernel_rfl) (by kernel_rfl) (by kernel_rfl) (fun _ _ _ h => h) HS0.out (Or.inl ⟨by rfl, by (intro W hW; go_simp)⟩) ?_
        simp only [Act.put]
        refine wpAnyX_take (i := 3) (v := .pointer (some ⟨g, off + i * 5, none⟩)) rfl (by kernel_rfl) (by kernel_rfl) (by kernel_rfl) (by kernel_rfl) (by kernel_rfl) (fun _ _ _ h => h) HS0.out (Or.inl ⟨by rfl, by (intro W hW; go_simp)⟩) ?_
        simp only [Act.put]
        refine wpAnyX_take (i := 4) (v := .agg #[.int .i64 h1.kind, .int .i64 h1.num, .string (bs h1.text), .slice ka1 kc1 kk1, .int .i64 h1.pl]) rfl (by kernel_rfl) (by kernel_rfl) (by kernel_rfl) (by kernel_rfl) (by kernel_rfl) (fun _ _ _ h => h) HS0.out (Or.inl ⟨by rfl, by (intro W hW; have z0 := keepc hW c0; have z1 := keepc hW c1; have z2 := keepc hW c2; have z3 := keepc hW c3; have z4 := keepc hW c4; go_simp)⟩) ?_
        simp only [Act.put]
        refine wpAnyX_take (i := 5) (v := .pointer (some ⟨w.heap.size + 1, 3, none⟩)) rfl (by kernel_rfl) (by kernel_rfl) (by kernel_rfl) (by kernel_rfl) (by kernel_rfl) (fun _ _ _ h => h) HS0.out (Or.inl ⟨by rfl, by (intro W hW; go_simp)⟩) ?_
        simp only [Act.put]
        refine wpAnyX_take (i := 6) (v := .slice (some ⟨g', off', none⟩) n d) rfl (by kernel_rfl) (by kernel_rfl) (by kernel_rfl) (by kernel_rfl) (by kernel_rfl) (fun _ _ _ h => h) HS0.out (Or.inl ⟨by rfl, by (intro W hW; have z := keepc hW bb; go_simp)⟩) ?_
        simp only [Act.put]
        refine wpAnyX_take (i := 7) (v := .int .i64 (i : Int)) rfl (by kernel_rfl) (by kernel_rfl) (by kernel_rfl) (by kernel_rfl) (by kernel_rfl) (fun _ _ _ h => h) HS0.out (Or.inl ⟨by rfl, by (intro W hW; go_simp)⟩) ?_
        simp only [Act.put]
        refine wpAnyX_take (i := 8) (v := .pointer (some ⟨g', off' + i * 5, none⟩)) rfl (by kernel_rfl) (by kernel_rfl) (by kernel_rfl) (by kernel_rfl) (by kernel_rfl) (fun _ _ _ h => h) HS0.out (Or.inl ⟨by rfl, by (intro W hW; go_simp)⟩) ?_
        simp only [Act.put]
        refine wpAnyX_take (i := 9) (v := .agg #[.int .i64 h2.kind, .int .i64 h2.num, .string (bs h2.text), .slice ka2 kc2 kk2, .int .i64 h2.pl]) rfl (by kernel_rfl) (by kernel_rfl) (by kernel_rfl) (by kernel_rfl) (by kernel_rfl) (fun _ _ _ h => h) HS0.out (Or.inl ⟨by rfl, by (intro W hW; have z0 := keepc hW d0; have z1 := keepc hW d1; have z2 := keepc hW d2; have z3 := keepc hW d3; have z4 := keepc hW d4; go_simp)⟩) ?_
        simp only [Act.put]
        clear c0 c1 c2 c3 c4 d0 d1 d2 d3 d4 ba bb
        cases hk : plE (h1, k1) (h2, k2) with
        | true =>
          have HKx : Hid (Calls Try.prog 49 #[.agg #[.int .i64 h1.kind, .int .i64 h1.num, .string (bs h1.text), .slice ka1 kc1 kk1, .int .i64 h1.pl], .agg #[.int .i64 h2.kind, .int .i64 h2.num, .string (bs h2.text), .slice ka2 kc2 kk2, .int .i64 h2.pl]] wr.drew fun e' w' => e' = .returned (.bool true) ∧ Below wr.heap.size wr w') := by
            have h := HKd.out _ HS0.out
            rw [hk] at h
            exact h.mono fun e' w' ⟨h1, h2⟩ => ⟨h1, HS0.out.trans (h2.mono HS0.out.size)⟩
          have HX : Hid (plF r1 r2 = D) := by
            show plF r1 r2 = D
            have := HKD.out
            rw [hk] at this
            simpa using this
          clear hk HKd HKD
          refine wpAnyX_one (i := 10) rfl (by kernel_rfl) (fun K hK => ?_)
          go_simp
          refine HKx.out.mono ?_
          rintro e' w3 ⟨rfl, hb3⟩
          refine hK.out _ _ (fun _ => hb3) ?_
          clear hK K
          refine wpAnyX_one (i := 11) rfl (by kernel_rfl) (fun K hK => ?_)
          go_simp
          refine hK.out _ _ (fun h => absurd rfl h) ?_
          clear hK K
          refine wpAnyX_done (by kernel_rfl) ?_ _
          have HN : Hid (FoAt o S w3 r1 (some ⟨g, off + (i + 1) * 5, none⟩) (n - (i + 1)) ∧ FoAt o' S' w3 r2 (some ⟨g', off' + (i + 1) * 5, none⟩) (n - (i + 1)) ∧ szF r1 ≤ N ∧ plF r1 r2 = D ∧ sameF r1 r2 = true ∧ Below w.heap.size w w3 ∧ w3.heap[w.heap.size]? = some (.cells #[.int .i64 hd.kind, .int .i64 hd.num, .string (bs hd.text), .slice (some ⟨g, off, none⟩) n c, .int .i64 hd.pl] 35 (0, 0)) ∧ w3.heap[w.heap.size + 1]? = some (.cells #[.int .i64 he.kind, .int .i64 he.num, .string (bs he.text), .slice (some ⟨g', off', none⟩) n d, .int .i64 he.pl] 35 (0, 0))) := by
            obtain ⟨a1, a2, _, a4, _, _, a7⟩ := HR.out
            obtain ⟨u1, u2, u3⟩ := HV.out
            exact ⟨a1.below hb3, a2.below hb3, a4, HX.out, a7, u1.trans (hb3.mono u1.size), by rw [hb3.block _ (lt_block u2)]; exact u2, by rw [hb3.block _ (lt_block u3)]; exact u3⟩
          clear hb3 HR HKx HX HV HS0
          go_wp2_with fail
          go_roundg (gk - 1)
          case measure => omega
          case rel => exact ⟨r1, r2, i + 1, by go_num, by omega, HN.out⟩
        | false =>
          have HKx : Hid (Calls Try.prog 49 #[.agg #[.int .i64 h1.kind, .int .i64 h1.num, .string (bs h1.text), .slice ka1 kc1 kk1, .int .i64 h1.pl], .agg #[.int .i64 h2.kind, .int .i64 h2.num, .string (bs h2.text), .slice ka2 kc2 kk2, .int .i64 h2.pl]] wr.drew fun e' w' => e' = .returned (.bool false) ∧ Below wr.heap.size wr w') := by
            have h := HKd.out _ HS0.out
            rw [hk] at h
            exact h.mono fun e' w' ⟨h1, h2⟩ => ⟨h1, HS0.out.trans (h2.mono HS0.out.size)⟩
          have HX : Hid (D = false) := by
            show D = false
            have := HKD.out
            rw [hk] at this
            simpa using this.symm
          clear hk HKd HKD
          refine wpAnyX_one (i := 10) rfl (by kernel_rfl) (fun K hK => ?_)
          go_simp
          refine HKx.out.mono ?_
          rintro e' w3 ⟨rfl, hb3⟩
          refine hK.out _ _ (fun _ => hb3) ?_
          clear hK K
          refine wpAnyX_one (i := 11) rfl (by kernel_rfl) (fun K hK => ?_)
          go_simp
          refine hK.out _ _ (fun h => absurd rfl h) ?_
          clear hK K
          refine wpAnyX_done (by kernel_rfl) ?_ _
          have HN : Hid (Below w.heap.size w w3) := HV.out.1.trans (hb3.mono HV.out.1.size)
          clear hb3 HR HKx HV HS0
          go_wp2
          go_ret
          exact ⟨ret_bool (by rw [HR0.out, HX.out]), HN.out⟩
      · have hdi : decide ((i : Int) < (n : Int)) = false := by simp; omega
        have HX : Hid (D = true) := by
          show D = true
          rw [show n - i = 0 by omega] at v1 v2
          rw [foAt_end v1, foAt_end v2] at v4
          exact v4.symm
        clear HT v1 v2 v3 v4 v5 v6 v8 v7
        go_wp2
        go_ret
        exact ⟨ret_bool (by rw [HR0.out, HX.out]), HV.out.1⟩

end Go.Proofs.Ytnnmhmlebffacaa
namespace Go.Proofs.Ytnnmhmlebffacaa
open Go.RowKit Go.Deep

theorem sameF_of_args {a b : It} {r s : List It} (h : sameI (a :: r) (b :: s) = true) : sameF a.args b.args = true ∧ sameI r s = true := by
  simp only [sameI, Bool.and_eq_true] at h
  exact ⟨h.1.2.2, h.2⟩
def plI : List It → List It → Bool
  | a :: r, b :: s => decide (a.pl = b.pl) && (plF a.args b.args && plI r s)
  | _, _ => true

set_option maxRecDepth 20000 in
set_option maxHeartbeats 8000000 in
theorem sameR_calls (L M : List It) (ao bo : Option Addr) (n c m d : Nat) (w : World) (o o' : Bool) (S S' : Nat → Prop) (hF : ItsAt o S w L ao n) (hG : ItsAt o' S' w M bo m) (hn : n ≤ maxLen) (hm : m ≤ maxLen) :
    Calls Try.prog 19 #[.agg #[.slice ao n c], .agg #[.slice bo m d]] w fun e' w' => e' = .returned (.bool (sameI L M)) ∧ Below w.heap.size w w' := by
  have hm2 := hm
  have hn2 := hn
  unfold maxLen at hm2 hn2
  by_cases hnm : n = m
  case neg =>
    have q0 : ((n : Int) != (m : Int)) = true := by simp; omega
    have HX : Hid (sameI L M = false) := sameI_len L M (by rw [← itsAt_len hF, ← itsAt_len hG]; exact hnm)
    have HB0 : Hid (∀ o o', Below w.heap.size w ((w.alloc o).alloc o')) := fun o o' => below_two w o o'
    clear hF hG hnm
    go_enter Try.func19, Try.ntmps19
    go_wp2
    go_ret
    exact ⟨ret_bool HX.out.symm, HB0.out _ _⟩
  subst hnm
  have q0 : ((n : Int) != (n : Int)) = false := by simp
  obtain ⟨g, off, hka, hF'⟩ := itsAt_addr hF
  obtain ⟨g', off', hkb, hG'⟩ := itsAt_addr hG
  generalize hD : sameI L M = D at *
  have H0 : Hid (ItsAt o S ((w.alloc (.cells #[.slice ao n c] 24)).alloc (.cells #[.slice bo n d] 24)) L (some ⟨g, off + 0 * 4, none⟩) (n - 0) ∧ ItsAt o' S' ((w.alloc (.cells #[.slice ao n c] 24)).alloc (.cells #[.slice bo n d] 24)) M (some ⟨g', off' + 0 * 4, none⟩) (n - 0) ∧ sameI L M = D ∧ Below w.heap.size w ((w.alloc (.cells #[.slice ao n c] 24)).alloc (.cells #[.slice bo n d] 24)) ∧ ((w.alloc (.cells #[.slice ao n c] 24)).alloc (.cells #[.slice bo n d] 24)).heap[w.heap.size]? = some (.cells #[.slice ao n c] 24 (0, 0)) ∧ ((w.alloc (.cells #[.slice ao n c] 24)).alloc (.cells #[.slice bo n d] 24)).heap[w.heap.size + 1]? = some (.cells #[.slice bo n d] 24 (0, 0))) := by
    have hb := below_two w (.cells #[.slice ao n c] 24) (.cells #[.slice bo n d] 24)
    exact ⟨hF'.below hb, hG'.below hb, hD, hb, heap_old (heap_alloc_new w _), twoN_new w _ _⟩
  clear hF hG hF' hG' hD
  go_enter Try.func19, Try.ntmps19
  go_wp2_with fail
  go_loopg [5] n (fun k iv wr => ∃ (F' G' : List It) (i : Nat), iv = .int .i64 (i : Int) ∧ i + k = n ∧ Hid (ItsAt o S wr F' (some ⟨g, off + i * 4, none⟩) (n - i) ∧ ItsAt o' S' wr G' (some ⟨g', off' + i * 4, none⟩) (n - i) ∧ sameI F' G' = D ∧ Below w.heap.size w wr ∧ wr.heap[w.heap.size]? = some (.cells #[.slice ao n c] 24 (0, 0)) ∧ wr.heap[w.heap.size + 1]? = some (.cells #[.slice bo n d] 24 (0, 0))))
  case atStart => exact ⟨L, M, 0, rfl, by omega, H0.out⟩
  case round =>
    clear H0
    obtain ⟨F', G', i, rfl, hik, HT⟩ := hrel
    obtain ⟨v1, v2, v4, v5, v6, v8⟩ := HT.out
    have ba := blk (i := 0) v6 rfl
    by_cases hi : i < n
    case neg =>
      have hdi : decide ((i : Int) < (n : Int)) = false := by simp; omega
      have HX : Hid (D = true ∧ Below w.heap.size w wr) := by
        rw [show n - i = 0 by omega] at v1 v2
        rw [itsAt_end v1, itsAt_end v2] at v4
        exact ⟨v4.symm, v5⟩
      clear HT v1 v2 v4 v5 v6 v8
      go_wp2
      go_ret
      exact ⟨ret_bool HX.out.1.symm, HX.out.2⟩
    have hdi : decide ((i : Int) < (n : Int)) = true := by simp; omega
    obtain ⟨h1, r1, ka1, kc1, kk1, rfl, -, hok1, hkc1, ⟨c0, c1, c2, c3⟩, hk1, hr1⟩ := itsAt_head v1 hi
    obtain ⟨h2, r2, ka2, kc2, kk2, rfl, -, hok2, hkc2, ⟨d0, d1, d2, d3⟩, hk2, hr2⟩ := itsAt_head v2 hi
    have hka2 := hka (by omega)
    have hkb2 := hkb (by omega)
    subst hka2
    subst hkb2
    have HBB : Hid (∀ o o', Below wr.heap.size wr ((wr.alloc o).alloc o')) := fun o o' => below_two wr o o'
    have d0' := fun o => keepc ((Below.refl wr.heap.size wr).alloc (Nat.le_refl _) o) d0
    have d1' := fun o => keepc ((Below.refl wr.heap.size wr).alloc (Nat.le_refl _) o) d1
    have d2' := fun o => keepc ((Below.refl wr.heap.size wr).alloc (Nat.le_refl _) o) d2
    have d3' := fun o => keepc ((Below.refl wr.heap.size wr).alloc (Nat.le_refl _) o) d3
    have hq' := fun o => keepc ((Below.refl wr.heap.size wr).alloc (Nat.le_refl _) o) (blk (i := 0) v8 rfl)
    have HR : Hid (ItsAt o S wr r1 (some ⟨g, off + (i + 1) * 4, none⟩) (n - (i + 1)) ∧ ItsAt o' S' wr r2 (some ⟨g', off' + (i + 1) * 4, none⟩) (n - (i + 1)) ∧ ((decide (h1.kind = h2.kind) && (decide (h1.name = h2.name) && sameF h1.args h2.args)) && sameI r1 r2) = D ∧ Below w.heap.size w wr ∧ wr.heap[w.heap.size]? = some (.cells #[.slice (some ⟨g, off, none⟩) n c] 24 (0, 0)) ∧ wr.heap[w.heap.size + 1]? = some (.cells #[.slice (some ⟨g', off', none⟩) n d] 24 (0, 0))) := ⟨hr1, hr2, v4, v5, v6, v8⟩
    have HBw : Hid (∀ o o', Below w.heap.size w ((wr.alloc o).alloc o')) := fun o o' => HR.out.2.2.2.1.trans ((HBB.out o o').mono HR.out.2.2.2.1.size)
    have hl1 := foAt_len hk1
    have hl2 := foAt_len hk2
    have HLn : Hid (kc1 = lenF h1.args ∧ kc2 = lenF h2.args) := ⟨hl1, hl2⟩
    obtain ⟨g5, off5, hk5, hF5⟩ := foAt_addr hk1
    obtain ⟨g6, off6, hk6, hF6⟩ := foAt_addr hk2
    have HI5 : Hid (FoAt o S wr h1.args (some ⟨g5, off5 + 0 * 5, none⟩) (kc1 - 0) ∧ FoAt o' S' wr h2.args (some ⟨g6, off6 + 0 * 5, none⟩) (kc2 - 0)) := ⟨hF5, hF6⟩
    have km1 := hkc1
    have km2 := hkc2
    unfold maxLen at km1 km2
    clear HT hk1 hk2 hr1 hr2 hok1 hok2 hkc1 hkc2 d0 d1 d2 d3 v1 v2 v4 v5 v6 v8 hl1 hl2 hF5 hF6
    by_cases e1 : h1.kind = h2.kind
    case neg =>
      have q1 : (h1.kind != h2.kind) = true := by simpa using e1
      have HX : Hid (D = false) := by show D = false; rw [← HR.out.2.2.1]; simp [e1]
      clear e1 HR HBB HI5 HLn
      go_wp2
      go_ret
      exact ⟨ret_bool HX.out.symm, HBw.out _ _⟩
    have q1 : (h1.kind != h2.kind) = false := by simp [e1]
    by_cases e3 : h1.name = h2.name
    case neg =>
      have q3 : ((bs h1.name).toList == (bs h2.name).toList) = false := by rw [bs_toList, bs_toList, beq_eq_false_iff_ne]; exact e3
      have HX : Hid (D = false) := by show D = false; rw [← HR.out.2.2.1]; simp [e3]
      clear e1 e3 HR HBB HI5 HLn
      go_wp2
      go_ret
      exact ⟨ret_bool HX.out.symm, HBw.out _ _⟩
    have q3 : ((bs h1.name).toList == (bs h2.name).toList) = true := by rw [e3]; simp
    have HE : Hid ((sameF h1.args h2.args && sameI r1 r2) = D) := by
      show _ = D
      rw [← HR.out.2.2.1]; simp [e1, e3]
    clear e1 e3
    by_cases hkk : kc1 = kc2
    case neg =>
      have q4 : ((kc1 : Int) != (kc2 : Int)) = true := by simp; omega
      have HX : Hid (D = false) := by
        show D = false
        rw [← HE.out, sameF_len _ _ (by rw [← HLn.out.1, ← HLn.out.2]; exact hkk)]; rfl
      clear hkk HR HBB HI5 HLn HE
      go_wp2
      go_ret
      exact ⟨ret_bool HX.out.symm, HBw.out _ _⟩
    subst hkk
    have q4 : ((kc1 : Int) != (kc1 : Int)) = false := by simp
    generalize wr = wo at *
    generalize gk = gq at *
    have HN1 : Hid (((wo.alloc (.cells #[.int .i64 h1.kind, .string (bs h1.name), .slice ka1 kc1 kk1, .int .i64 h1.pl] 42)).alloc (.cells #[.int .i64 h2.kind, .string (bs h2.name), .slice ka2 kc1 kk2, .int .i64 h2.pl] 42)).heap[wo.heap.size]? = some (.cells #[.int .i64 h1.kind, .string (bs h1.name), .slice ka1 kc1 kk1, .int .i64 h1.pl] 42 (0, 0)) ∧ ((wo.alloc (.cells #[.int .i64 h1.kind, .string (bs h1.name), .slice ka1 kc1 kk1, .int .i64 h1.pl] 42)).alloc (.cells #[.int .i64 h2.kind, .string (bs h2.name), .slice ka2 kc1 kk2, .int .i64 h2.pl] 42)).heap[wo.heap.size + 1]? = some (.cells #[.int .i64 h2.kind, .string (bs h2.name), .slice ka2 kc1 kk2, .int .i64 h2.pl] 42 (0, 0))) := ⟨heap_old (heap_alloc_new wo _), twoN_new wo _ _⟩
    clear HLn HBw
    go_wp2_with fail
    have HW9 : Hid (Below wo.heap.size wo ((wo.alloc (.cells #[.int .i64 h1.kind, .string (bs h1.name), .slice ka1 kc1 kk1, .int .i64 h1.pl] 42)).alloc (.cells #[.int .i64 h2.kind, .string (bs h2.name), .slice ka2 kc1 kk2, .int .i64 h2.pl] 42)) ∧ ((wo.alloc (.cells #[.int .i64 h1.kind, .string (bs h1.name), .slice ka1 kc1 kk1, .int .i64 h1.pl] 42)).alloc (.cells #[.int .i64 h2.kind, .string (bs h2.name), .slice ka2 kc1 kk2, .int .i64 h2.pl] 42)).heap[wo.heap.size]? = some (.cells #[.int .i64 h1.kind, .string (bs h1.name), .slice ka1 kc1 kk1, .int .i64 h1.pl] 42 (0, 0)) ∧ ((wo.alloc (.cells #[.int .i64 h1.kind, .string (bs h1.name), .slice ka1 kc1 kk1, .int .i64 h1.pl] 42)).alloc (.cells #[.int .i64 h2.kind, .string (bs h2.name), .slice ka2 kc1 kk2, .int .i64 h2.pl] 42)).heap[wo.heap.size + 1]? = some (.cells #[.int .i64 h2.kind, .string (bs h2.name), .slice ka2 kc1 kk2, .int .i64 h2.pl] 42 (0, 0))) := ⟨HBB.out _ _, HN1.out⟩
    generalize (wo.alloc (.cells #[.int .i64 h1.kind, .string (bs h1.name), .slice ka1 kc1 kk1, .int .i64 h1.pl] 42)).alloc (.cells #[.int .i64 h2.kind, .string (bs h2.name), .slice ka2 kc1 kk2, .int .i64 h2.pl] 42) = w9 at *
    have HF9 : Hid (FoAt o S w9 h1.args (some ⟨g5, off5 + 0 * 5, none⟩) (kc1 - 0) ∧ FoAt o' S' w9 h2.args (some ⟨g6, off6 + 0 * 5, none⟩) (kc1 - 0)) := ⟨HI5.out.1.below HW9.out.1, HI5.out.2.below HW9.out.1⟩
    clear d0' d1' d2' d3' hq' c0 c1 c2 c3 HN1 HBB HI5 ba
    go_loopg [8] kc1 (fun k jv ws => ∃ (F2 G2 : Fo) (j : Nat), jv = .int .i64 (j : Int) ∧ j + k = kc1 ∧ Hid (FoAt o S ws F2 (some ⟨g5, off5 + j * 5, none⟩) (kc1 - j) ∧ FoAt o' S' ws G2 (some ⟨g6, off6 + j * 5, none⟩) (kc1 - j) ∧ (sameF F2 G2 && sameI r1 r2) = D) ∧ Hid (Below wo.heap.size wo ws ∧ ws.heap[wo.heap.size]? = some (.cells #[.int .i64 h1.kind, .string (bs h1.name), .slice ka1 kc1 kk1, .int .i64 h1.pl] 42 (0, 0)) ∧ ws.heap[wo.heap.size + 1]? = some (.cells #[.int .i64 h2.kind, .string (bs h2.name), .slice ka2 kc1 kk2, .int .i64 h2.pl] 42 (0, 0))))
    case atStart => exact ⟨h1.args, h2.args, 0, rfl, by omega, ⟨HF9.out.1, HF9.out.2, HE.out⟩, HW9.out⟩
    case round =>
      clear HF9 HW9 HE
      obtain ⟨F2, G2, j, rfl, hjk, HG, HB⟩ := hrel
      obtain ⟨v1, v2, v3⟩ := HG.out
      have a2 := blk (i := 2) HB.out.2.1 rfl
      have b2 := blk (i := 2) HB.out.2.2 rfl
      by_cases hj : j < kc1
      case neg =>
        have hdj : decide ((j : Int) < (kc1 : Int)) = false := by simp; omega
        have HN : Hid (ItsAt o S wr r1 (some ⟨g, off + (i + 1) * 4, none⟩) (n - (i + 1)) ∧ ItsAt o' S' wr r2 (some ⟨g', off' + (i + 1) * 4, none⟩) (n - (i + 1)) ∧ sameI r1 r2 = D ∧ Below w.heap.size w wr ∧ wr.heap[w.heap.size]? = some (.cells #[.slice (some ⟨g, off, none⟩) n c] 24 (0, 0)) ∧ wr.heap[w.heap.size + 1]? = some (.cells #[.slice (some ⟨g', off', none⟩) n d] 24 (0, 0))) := by
          rw [show kc1 - j = 0 by omega] at v1 v2
          rw [foAt_end v1, foAt_end v2] at v3
          obtain ⟨x1, x2, _, x4, x5, x6⟩ := HR.out
          have hb := HB.out.1
          exact ⟨x1.below hb, x2.below hb, by simpa [sameF] using v3, x4.trans (hb.mono x4.size), by rw [hb.block _ (lt_block x5)]; exact x5, by rw [hb.block _ (lt_block x6)]; exact x6⟩
        clear HG HB v1 v2 v3 HR
        go_wp2_with fail
        go_roundg (gq - 1)
        case measure => omega
        case rel => exact ⟨r1, r2, i + 1, by go_num, by omega, HN.out⟩
      have hdj : decide ((j : Int) < (kc1 : Int)) = true := by simp; omega
      obtain ⟨b1, o1, p1, k1, s1, la1, lc1, lk1, rfl, -, hok1, hkc1, ⟨x0, x1, x2, x3, x4⟩, hk1, hr1⟩ := foAt_head v1 hj
      obtain ⟨b2', o2, p2, k2, s2, la2, lc2, lk2, rfl, -, hok2, hkc2, ⟨y0, y1, y2, y3, y4⟩, hk2, hr2⟩ := foAt_head v2 hj
      have hk5' := hk5 (by omega)
      have hk6' := hk6 (by omega)
      subst hk5'
      subst hk6'
      have HE2 : Hid ((sameE (p1, k1) (p2, k2) && (sameF s1 s2 && sameI r1 r2)) = D) := by
        show _ = D
        rw [← v3]; simp [sameE, sameF, Bool.and_assoc]
      have HR2 : Hid (FoAt o S wr s1 (some ⟨g5, off5 + (j + 1) * 5, none⟩) (kc1 - (j + 1)) ∧ FoAt o' S' wr s2 (some ⟨g6, off6 + (j + 1) * 5, none⟩) (kc1 - (j + 1))) := ⟨hr1, hr2⟩
      have HS0 : Hid (Below wr.heap.size wr wr.drew) := (Below.refl _ _).drew
      have HKx : Hid (Calls Try.prog 35 #[.agg #[.int .i64 p1.kind, .int .i64 p1.num, .string (bs p1.text), .slice la1 lc1 lk1, .int .i64 p1.pl], .agg #[.int .i64 p2.kind, .int .i64 p2.num, .string (bs p2.text), .slice la2 lc2 lk2, .int .i64 p2.pl]] wr.drew fun e' w' => e' = .returned (.bool (sameE (p1, k1) (p2, k2))) ∧ Below wr.heap.size wr w') := by
        have h := sameE_calls _ (p1, k1) (p2, k2) la1 la2 lc1 lk1 lc2 lk2 wr.drew o o' S S' ⟨hok1, hkc1, hk1.below HS0.out⟩ ⟨hok2, hkc2, hk2.below HS0.out⟩ (Nat.lt_succ_self _)
        exact h.mono fun e' w' ⟨h1, h2⟩ => ⟨h1, HS0.out.trans (h2.mono HS0.out.size)⟩
      clear HG hk1 hk2 hr1 hr2 hok1 hok2 hkc1 hkc2 v1 v2 v3
      go_wp2_with fail
      refine wp_region_X 11 (Below wr.heap.size wr) (by kernel_rfl) ?_
      refine wpAnyX_take (i := 0) (v := .pointer (some ⟨wo.heap.size, 2, none⟩)) rfl (by kernel_rfl) (by kernel_rfl) (by kernel_rfl) (by kernel_rfl) (by kernel_rfl) (fun _ _ _ h => h) HS0.out (Or.inl ⟨by rfl, by (intro W hW; go_simp)⟩) ?_
      simp only [Act.put]
      refine wpAnyX_take (i := 1) (v := .slice (some ⟨g5, off5, none⟩) kc1 kk1) rfl (by kernel_rfl) (by kernel_rfl) (by kernel_rfl) (by kernel_rfl) (by kernel_rfl) (fun _ _ _ h => h) HS0.out (Or.inl ⟨by rfl, by (intro W hW; have z := keepc hW a2; go_simp)⟩) ?_
      simp only [Act.put]
      refine wpAnyX_take (i := 2) (v := .int .i64 (j : Int)) rfl (by kernel_rfl) (by kernel_rfl) (by kernel_rfl) (by kernel_rfl) (by kernel_rfl) (fun _ _ _ h => h) HS0.out (Or.inl ⟨by rfl, by (intro W hW; go_simp)⟩) ?_
      simp only [Act.put]
      refine wpAnyX_take (i := 3) (v := .pointer (some ⟨g5, off5 + j * 5, none⟩)) rfl (by kernel_rfl) (by kernel_rfl) (by kernel_rfl) (by kernel_rfl) (by kernel_rfl) (fun _ _ _ h => h) HS0.out (Or.inl ⟨by rfl, by (intro W hW; go_simp)⟩) ?_
      simp only [Act.put]
      refine wpAnyX_take (i := 4) (v := .agg #[.int .i64 p1.kind, .int .i64 p1.num, .string (bs p1.text), .slice la1 lc1 lk1, .int .i64 p1.pl]) rfl (by kernel_rfl) (by kernel_rfl) (by kernel_rfl) (by kernel_rfl) (by kernel_rfl) (fun _ _ _ h => h) HS0.out (Or.inl ⟨by rfl, by (intro W hW; have z0 := keepc hW x0; have z1 := keepc hW x1; have z2 := keepc hW x2; have z3 := keepc hW x3; have z4 := keepc hW x4; go_simp)⟩) ?_
      simp only [Act.put]
      refine wpAnyX_take (i := 5) (v := .pointer (some ⟨wo.heap.size + 1, 2, none⟩)) rfl (by kernel_rfl) (by kernel_rfl) (by kernel_rfl) (by kernel_rfl) (by kernel_rfl) (fun _ _ _ h => h) HS0.out (Or.inl ⟨by rfl, by (intro W hW; go_simp)⟩) ?_
      simp only [Act.put]
      refine wpAnyX_take (i := 6) (v := .slice (some ⟨g6, off6, none⟩) kc1 kk2) rfl (by kernel_rfl) (by kernel_rfl) (by kernel_rfl) (by kernel_rfl) (by kernel_rfl) (fun _ _ _ h => h) HS0.out (Or.inl ⟨by rfl, by (intro W hW; have z := keepc hW b2; go_simp)⟩) ?_
      simp only [Act.put]
      refine wpAnyX_take (i := 7) (v := .int .i64 (j : Int)) rfl (by kernel_rfl) (by kernel_rfl) (by kernel_rfl) (by kernel_rfl) (by kernel_rfl) (fun _ _ _ h => h) HS0.out (Or.inl ⟨by rfl, by (intro W hW; go_simp)⟩) ?_
      simp only [Act.put]
      refine wpAnyX_take (i := 8) (v := .pointer (some ⟨g6, off6 + j * 5, none⟩)) rfl (by kernel_rfl) (by kernel_rfl) (by kernel_rfl) (by kernel_rfl) (by kernel_rfl) (fun _ _ _ h => h) HS0.out (Or.inl ⟨by rfl, by (intro W hW; go_simp)⟩) ?_
      simp only [Act.put]
      refine wpAnyX_take (i := 9) (v := .agg #[.int .i64 p2.kind, .int .i64 p2.num, .string (bs p2.text), .slice la2 lc2 lk2, .int .i64 p2.pl]) rfl (by kernel_rfl) (by kernel_rfl) (by kernel_rfl) (by kernel_rfl) (by kernel_rfl) (fun _ _ _ h => h) HS0.out (Or.inl ⟨by rfl, by (intro W hW; have z0 := keepc hW y0; have z1 := keepc hW y1; have z2 := keepc hW y2; have z3 := keepc hW y3; have z4 := keepc hW y4; go_simp)⟩) ?_
      simp only [Act.put]
      clear x0 x1 x2 x3 x4 y0 y1 y2 y3 y4 a2 b2
      cases hk : sameE (p1, k1) (p2, k2) with
      | true =>
        rw [hk] at HKx HE2
        have HX : Hid ((sameF s1 s2 && sameI r1 r2) = D) := by
          show (sameF s1 s2 && sameI r1 r2) = D
          have := HE2.out
          simpa using this
        clear hk HE2
        refine wpAnyX_one (i := 10) rfl (by kernel_rfl) (fun K hK => ?_)
        go_simp
        refine HKx.out.mono ?_
        rintro e' w3 ⟨rfl, hb3⟩
        refine hK.out _ _ (fun _ => hb3) ?_
        clear hK K
        refine wpAnyX_one (i := 11) rfl (by kernel_rfl) (fun K hK => ?_)
        go_simp
        refine hK.out _ _ (fun h => absurd rfl h) ?_
        clear hK K
        refine wpAnyX_done (by kernel_rfl) ?_ _
        have HN : Hid ((FoAt o S w3 s1 (some ⟨g5, off5 + (j + 1) * 5, none⟩) (kc1 - (j + 1)) ∧ FoAt o' S' w3 s2 (some ⟨g6, off6 + (j + 1) * 5, none⟩) (kc1 - (j + 1)) ∧ (sameF s1 s2 && sameI r1 r2) = D) ∧ (Below wo.heap.size wo w3 ∧ w3.heap[wo.heap.size]? = some (.cells #[.int .i64 h1.kind, .string (bs h1.name), .slice (some ⟨g5, off5, none⟩) kc1 kk1, .int .i64 h1.pl] 42 (0, 0)) ∧ w3.heap[wo.heap.size + 1]? = some (.cells #[.int .i64 h2.kind, .string (bs h2.name), .slice (some ⟨g6, off6, none⟩) kc1 kk2, .int .i64 h2.pl] 42 (0, 0)))) := by
          obtain ⟨u1, u2, u3⟩ := HB.out
          exact ⟨⟨HR2.out.1.below hb3, HR2.out.2.below hb3, HX.out⟩, u1.trans (hb3.mono u1.size), by rw [hb3.block _ (lt_block u2)]; exact u2, by rw [hb3.block _ (lt_block u3)]; exact u3⟩
        clear hb3 HR2 HKx HX HB HS0
        go_wp2_with fail
        go_roundg (gk - 1)
        case measure => omega
        case rel => exact ⟨s1, s2, j + 1, by go_num, by omega, HN.out.1, HN.out.2⟩
      | false =>
        rw [hk] at HKx HE2
        have HX : Hid (D = false) := by
          show D = false
          have := HE2.out
          simpa using this.symm
        clear hk HE2
        refine wpAnyX_one (i := 10) rfl (by kernel_rfl) (fun K hK => ?_)
        go_simp
        refine HKx.out.mono ?_
        rintro e' w3 ⟨rfl, hb3⟩
        refine hK.out _ _ (fun _ => hb3) ?_
        clear hK K
        refine wpAnyX_one (i := 11) rfl (by kernel_rfl) (fun K hK => ?_)
        go_simp
        refine hK.out _ _ (fun h => absurd rfl h) ?_
        clear hK K
        refine wpAnyX_done (by kernel_rfl) ?_ _
        have HN : Hid (Below w.heap.size w w3) := by
          have h1 := HB.out.1.trans (hb3.mono HB.out.1.size)
          exact HR.out.2.2.2.1.trans (h1.mono HR.out.2.2.2.1.size)
        clear hb3 HR HR2 HKx HB HS0
        go_wp2
        go_ret
        exact ⟨ret_bool HX.out.symm, HN.out⟩

end Go.Proofs.Ytnnmhmlebffacaa
