/-
  The document's Places. The document's kids.
-/
import Derived.Test.YtnnmhmlebffacaaG25
import Derived.Test.YtnnmhmlebffacaaG27
namespace Go.Proofs.Ytnnmhmlebffacaa
open Go.RowKit Go.Deep

section
variable {P : Program} {ops : Array Oper} {Q : Exit → Act → World → Prop} {md : Region.Mode} {S : World → Prop} {x : Nat}
/-- As the law of one load that is taken first, where the last operation waits for it by itself. -/
theorem wpAnyX_take1 {i : Nat} {oi : Oper} {v : Value} {fuel : Nat} {listed : Array Bool} {a : Act} {w : World} (hi : ops[i]? = some oi)
    (hs : Region.noSelect ops = true) (hc : closedB md ops listed = true) (hx : waitsB md ops i 1 x = true) (hf : Region.free md ops listed i = true) (hr : (Region.ready md ops listed).contains i = true)
    (hQ : ∀ c a w, Q (.panic c) (a.put oi.dst v) w → Q (.panic c) a w) (hS : S w) (hy : YieldsIf P ops S oi v a)
    (h : wpAnyX P md ops Q S x fuel (listed.setIfInBounds i true) (a.put oi.dst v) w) : wpAnyX P md ops Q S x (fuel + 1) listed a w :=
  wpAnyX_first hi (Region.noSelect_spec hs) hQ hx fuel listed a w (closed_of hc) (Region.free_spec hi hf) (by simpa using hr) hy hS h
end

set_option maxRecDepth 20000 in
set_option maxHeartbeats 8000000 in
theorem places_calls (L M : List It) (ao bo : Option Addr) (n c m d : Nat) (w : World) (o o' : Bool) (S S' : Nat → Prop) (hF : ItsAt o S w L ao n) (hG : ItsAt o' S' w M bo m) (hn : n ≤ maxLen) (hm : m ≤ maxLen) (hsm : sameI L M = true) :
    Calls Try.prog 29 #[.agg #[.slice ao n c], .agg #[.slice bo m d]] w fun e' w' => e' = .returned (.bool (plI L M)) ∧ Below w.heap.size w w' := by
  have hm2 := hm
  have hn2 := hn
  unfold maxLen at hm2 hn2
  have hnm : n = m := by
    rw [itsAt_len hF, itsAt_len hG]
    rcases Classical.em (L.length = M.length) with h | h
    · exact h
    · rw [sameI_len L M h] at hsm; cases hsm
  subst hnm
  obtain ⟨g, off, hka, hF'⟩ := itsAt_addr hF
  obtain ⟨g', off', hkb, hG'⟩ := itsAt_addr hG
  generalize hD : plI L M = D at *
  have H0 : Hid (ItsAt o S ((w.alloc (.cells #[.slice ao n c] 24)).alloc (.cells #[.slice bo n d] 24)) L (some ⟨g, off + 0 * 4, none⟩) (n - 0) ∧ ItsAt o' S' ((w.alloc (.cells #[.slice ao n c] 24)).alloc (.cells #[.slice bo n d] 24)) M (some ⟨g', off' + 0 * 4, none⟩) (n - 0) ∧ plI L M = D ∧ sameI L M = true ∧ Below w.heap.size w ((w.alloc (.cells #[.slice ao n c] 24)).alloc (.cells #[.slice bo n d] 24)) ∧ ((w.alloc (.cells #[.slice ao n c] 24)).alloc (.cells #[.slice bo n d] 24)).heap[w.heap.size]? = some (.cells #[.slice ao n c] 24 (0, 0)) ∧ ((w.alloc (.cells #[.slice ao n c] 24)).alloc (.cells #[.slice bo n d] 24)).heap[w.heap.size + 1]? = some (.cells #[.slice bo n d] 24 (0, 0))) := by
    have hb := below_two w (.cells #[.slice ao n c] 24) (.cells #[.slice bo n d] 24)
    exact ⟨hF'.below hb, hG'.below hb, hD, hsm, hb, heap_old (heap_alloc_new w _), twoN_new w _ _⟩
  clear hF hG hF' hG' hD hsm
  go_enter Try.func29, Try.ntmps29
  go_wp2_with fail
  go_loopg [5] n (fun k iv wr => ∃ (F' G' : List It) (i : Nat), iv = .int .i64 (i : Int) ∧ i + k = n ∧ Hid (ItsAt o S wr F' (some ⟨g, off + i * 4, none⟩) (n - i) ∧ ItsAt o' S' wr G' (some ⟨g', off' + i * 4, none⟩) (n - i) ∧ plI F' G' = D ∧ sameI F' G' = true ∧ Below w.heap.size w wr ∧ wr.heap[w.heap.size]? = some (.cells #[.slice ao n c] 24 (0, 0)) ∧ wr.heap[w.heap.size + 1]? = some (.cells #[.slice bo n d] 24 (0, 0))))
  case atStart => exact ⟨L, M, 0, rfl, by omega, H0.out⟩
  case round =>
    clear H0
    obtain ⟨F', G', i, rfl, hik, HT⟩ := hrel
    obtain ⟨v1, v2, v4, v7, v5, v6, v8⟩ := HT.out
    have ba := blk (i := 0) v6 rfl
    have bb := blk (i := 0) v8 rfl
    by_cases hi : i < n
    case neg =>
      have hdi : decide ((i : Int) < (n : Int)) = false := by simp; omega
      have HX : Hid (D = true ∧ Below w.heap.size w wr) := by
        rw [show n - i = 0 by omega] at v1 v2
        rw [itsAt_end v1, itsAt_end v2] at v4
        exact ⟨v4.symm, v5⟩
      clear HT v1 v2 v4 v5 v6 v8 v7
      go_wp2
      go_ret
      exact ⟨ret_bool HX.out.1.symm, HX.out.2⟩
    have hdi : decide ((i : Int) < (n : Int)) = true := by simp; omega
    obtain ⟨h1, r1, ka1, kc1, kk1, rfl, -, hok1, hkc1, ⟨c0, c1, c2, c3⟩, hk1, hr1⟩ := itsAt_head v1 hi
    obtain ⟨h2, r2, ka2, kc2, kk2, rfl, -, hok2, hkc2, ⟨d0, d1, d2, d3⟩, hk2, hr2⟩ := itsAt_head v2 hi
    have hka2 := hka (by omega)
    have hkb2 := hkb (by omega)
    subst hka2
    subst hkb2
    obtain ⟨sm1, sm2⟩ := sameF_of_args v7
    have hkk : kc1 = kc2 := by
      rw [foAt_len hk1, foAt_len hk2]
      rcases Classical.em (lenF h1.args = lenF h2.args) with h | h
      · exact h
      · rw [sameF_len _ _ h] at sm1; cases sm1
    subst hkk
    have HR : Hid (ItsAt o S wr r1 (some ⟨g, off + (i + 1) * 4, none⟩) (n - (i + 1)) ∧ ItsAt o' S' wr r2 (some ⟨g', off' + (i + 1) * 4, none⟩) (n - (i + 1)) ∧ (decide (h1.pl = h2.pl) && (plF h1.args h2.args && plI r1 r2)) = D ∧ Below w.heap.size w wr ∧ wr.heap[w.heap.size]? = some (.cells #[.slice (some ⟨g, off, none⟩) n c] 24 (0, 0)) ∧ wr.heap[w.heap.size + 1]? = some (.cells #[.slice (some ⟨g', off', none⟩) n d] 24 (0, 0)) ∧ sameF h1.args h2.args = true ∧ sameI r1 r2 = true) := ⟨hr1, hr2, v4, v5, v6, v8, sm1, sm2⟩
    have HDw : Hid (∀ m, Below wr.heap.size wr (wr.drewN m)) := fun m => below_drewN (Below.refl wr.heap.size wr) m
    obtain ⟨g5, off5, hk5, hF5⟩ := foAt_addr hk1
    obtain ⟨g6, off6, hk6, hF6⟩ := foAt_addr hk2
    have HI5 : Hid (FoAt o S wr h1.args (some ⟨g5, off5 + 0 * 5, none⟩) (kc1 - 0) ∧ FoAt o' S' wr h2.args (some ⟨g6, off6 + 0 * 5, none⟩) (kc1 - 0)) := ⟨hF5, hF6⟩
    have km1 := hkc1
    unfold maxLen at km1
    have HCs : Hid (wr.cell? ⟨g, off + i * 4 + 2, none⟩ = some (.slice ka1 kc1 kk1) ∧ wr.cell? ⟨g', off' + i * 4 + 2, none⟩ = some (.slice ka2 kc1 kk2)) := ⟨c2, d2⟩
    clear HT hk1 hk2 hr1 hr2 hok1 hok2 hkc1 hkc2 v1 v2 v4 v5 v6 v8 v7 sm1 sm2 hF5 hF6 c0 c1 c2 d0 d1 d2
    by_cases e1 : h1.pl = h2.pl
    case neg =>
      have q1 : (h1.pl != h2.pl) = true := by simpa using e1
      have HX : Hid (D = false ∧ ∀ m, Below w.heap.size w (wr.drewN m)) := ⟨by rw [← HR.out.2.2.1]; simp [e1], fun m => HR.out.2.2.2.1.trans ((HDw.out m).mono HR.out.2.2.2.1.size)⟩
      clear e1 HR HI5 HDw HCs
      go_wp2_with fail
      go_quiet (fail)
      go_wp2
      go_ret
      exact ⟨ret_bool HX.out.1.symm, HX.out.2 _⟩
    have q1 : (h1.pl != h2.pl) = false := by simp [e1]
    have HE : Hid ((plF h1.args h2.args && plI r1 r2) = D) := by
      show _ = D
      rw [← HR.out.2.2.1]; simp [e1]
    clear e1
    go_wp2_with fail
    go_quiet (fail)
    generalize wr = wo at *
    generalize gk = gq at *
    have HW9 : Hid (Below wo.heap.size wo (wo.drewN nq)) := HDw.out nq
    generalize wo.drewN nq = w9 at *
    have HF9 : Hid (FoAt o S w9 h1.args (some ⟨g5, off5 + 0 * 5, none⟩) (kc1 - 0) ∧ FoAt o' S' w9 h2.args (some ⟨g6, off6 + 0 * 5, none⟩) (kc1 - 0)) := ⟨HI5.out.1.below HW9.out, HI5.out.2.below HW9.out⟩
    clear c3 d3 HI5 ba bb HDw
    go_wp2_with fail
    go_loopg [6] kc1 (fun k jv ws => ∃ (F2 G2 : Fo) (j : Nat), jv = .int .i64 (j : Int) ∧ j + k = kc1 ∧ Hid (FoAt o S ws F2 (some ⟨g5, off5 + j * 5, none⟩) (kc1 - j) ∧ FoAt o' S' ws G2 (some ⟨g6, off6 + j * 5, none⟩) (kc1 - j) ∧ (plF F2 G2 && plI r1 r2) = D) ∧ Hid (Below wo.heap.size wo ws ∧ sameF F2 G2 = true))
    case atStart => exact ⟨h1.args, h2.args, 0, rfl, by omega, ⟨HF9.out.1, HF9.out.2, HE.out⟩, HW9.out, HR.out.2.2.2.2.2.2.1⟩
    case round =>
      clear HF9 HW9 HE
      obtain ⟨F2, G2, j, rfl, hjk, HG, HB⟩ := hrel
      obtain ⟨v1, v2, v3⟩ := HG.out
      obtain ⟨hb, hsm2⟩ := HB.out
      have a0 := keepc hb (blk (i := 0) HR.out.2.2.2.2.1 rfl)
      have b0 := keepc hb (blk (i := 0) HR.out.2.2.2.2.2.1 rfl)
      have a2 := keepc hb HCs.out.1
      have b2 := keepc hb HCs.out.2
      by_cases hj : j < kc1
      case neg =>
        have hdj : decide ((j : Int) < (kc1 : Int)) = false := by simp; omega
        have HN : Hid (ItsAt o S wr r1 (some ⟨g, off + (i + 1) * 4, none⟩) (n - (i + 1)) ∧ ItsAt o' S' wr r2 (some ⟨g', off' + (i + 1) * 4, none⟩) (n - (i + 1)) ∧ plI r1 r2 = D ∧ sameI r1 r2 = true ∧ Below w.heap.size w wr ∧ wr.heap[w.heap.size]? = some (.cells #[.slice (some ⟨g, off, none⟩) n c] 24 (0, 0)) ∧ wr.heap[w.heap.size + 1]? = some (.cells #[.slice (some ⟨g', off', none⟩) n d] 24 (0, 0))) := by
          rw [show kc1 - j = 0 by omega] at v1 v2
          rw [foAt_end v1, foAt_end v2] at v3
          obtain ⟨x1, x2, _, x4, x5, x6, _, x7⟩ := HR.out
          exact ⟨x1.below hb, x2.below hb, by simpa [plF] using v3, x7, x4.trans (hb.mono x4.size), by rw [hb.block _ (lt_block x5)]; exact x5, by rw [hb.block _ (lt_block x6)]; exact x6⟩
        clear HG HB v1 v2 v3 HR hb hsm2 HCs
        go_wp2_with fail
        go_roundg (gq - 1)
        case measure => omega
        case rel => exact ⟨r1, r2, i + 1, by go_num, by omega, HN.out⟩
      have hdj : decide ((j : Int) < (kc1 : Int)) = true := by simp; omega
      obtain ⟨b1, o1, p1, k1, s1, la1, lc1, lk1, rfl, -, hok1, hkc1, ⟨x0, x1, x2, x3, x4⟩, hk1, hr1⟩ := foAt_head v1 hj
      obtain ⟨b2', o2, p2, k2, s2, la2, lc2, lk2, rfl, -, hok2, hkc2, ⟨y0, y1, y2, y3, y4⟩, hk2, hr2⟩ := foAt_head v2 hj
      have hk5' := hk5 (by omega)
      have hk6' := hk6 (by omega)
      subst hk5'
      subst hk6'
      have HE2 : Hid ((plE (p1, k1) (p2, k2) && (plF s1 s2 && plI r1 r2)) = D) := by
        show _ = D
        rw [← v3]; simp [plE, plF, Bool.and_assoc]
      have HR2 : Hid (FoAt o S wr s1 (some ⟨g5, off5 + (j + 1) * 5, none⟩) (kc1 - (j + 1)) ∧ FoAt o' S' wr s2 (some ⟨g6, off6 + (j + 1) * 5, none⟩) (kc1 - (j + 1)) ∧ sameF k1 k2 = true ∧ sameF s1 s2 = true) := by
        simp only [sameF, Bool.and_eq_true] at hsm2
        exact ⟨hr1, hr2, hsm2.2.1, hsm2.2.2⟩
      have HS0 : Hid (Below wr.heap.size wr wr.drew) := (Below.refl _ _).drew
      have HKx : Hid (Calls Try.prog 49 #[.agg #[.int .i64 p1.kind, .int .i64 p1.num, .string (bs p1.text), .slice la1 lc1 lk1, .int .i64 p1.pl], .agg #[.int .i64 p2.kind, .int .i64 p2.num, .string (bs p2.text), .slice la2 lc2 lk2, .int .i64 p2.pl]] wr.drew fun e' w' => e' = .returned (.bool (plE (p1, k1) (p2, k2))) ∧ Below wr.heap.size wr w') := by
        have h := plE_calls _ (p1, k1) (p2, k2) la1 la2 lc1 lk1 lc2 lk2 wr.drew o o' S S' ⟨hok1, hkc1, hk1.below HS0.out⟩ ⟨hok2, hkc2, hk2.below HS0.out⟩ (Nat.lt_succ_self _) HR2.out.2.2.1
        exact h.mono fun e' w' ⟨h1, h2⟩ => ⟨h1, HS0.out.trans (h2.mono HS0.out.size)⟩
      clear HG hk1 hk2 hr1 hr2 hok1 hok2 hkc1 hkc2 v1 v2 v3 hb hsm2
      by_cases hk : plE (p1, k1) (p2, k2) = true
      case pos =>
        rw [hk] at HKx HE2
        have HX : Hid ((plF s1 s2 && plI r1 r2) = D) := by
          show (plF s1 s2 && plI r1 r2) = D
          have := HE2.out
          simpa using this
        clear hk HE2
        go_wp2_with fail
        refine wp_region_X 19 (Below wr.heap.size wr) (by kernel_rfl) ?_
        refine wpAnyX_take1 (i := 0) (v := .pointer (some ⟨w.heap.size, 0, none⟩)) rfl (by kernel_rfl) (by kernel_rfl) (by kernel_rfl) (by kernel_rfl) (by kernel_rfl) (fun _ _ _ h => h) HS0.out (Or.inl ⟨by rfl, by (intro W hW; go_simp)⟩) ?_
        simp only [Act.put]
        refine wpAnyX_take1 (i := 1) (v := .slice (some ⟨g, off, none⟩) n c) rfl (by kernel_rfl) (by kernel_rfl) (by kernel_rfl) (by kernel_rfl) (by kernel_rfl) (fun _ _ _ h => h) HS0.out (Or.inl ⟨by rfl, by (intro W hW; have z := keepc hW a0; go_simp)⟩) ?_
        simp only [Act.put]
        refine wpAnyX_take1 (i := 2) (v := .int .i64 (i : Int)) rfl (by kernel_rfl) (by kernel_rfl) (by kernel_rfl) (by kernel_rfl) (by kernel_rfl) (fun _ _ _ h => h) HS0.out (Or.inl ⟨by rfl, by (intro W hW; go_simp)⟩) ?_
        simp only [Act.put]
        refine wpAnyX_take1 (i := 3) (v := .pointer (some ⟨g, off + i * 4, none⟩)) rfl (by kernel_rfl) (by kernel_rfl) (by kernel_rfl) (by kernel_rfl) (by kernel_rfl) (fun _ _ _ h => h) HS0.out (Or.inl ⟨by rfl, by (intro W hW; go_simp)⟩) ?_
        simp only [Act.put]
        refine wpAnyX_take1 (i := 4) (v := .pointer (some ⟨g, off + i * 4 + 2, none⟩)) rfl (by kernel_rfl) (by kernel_rfl) (by kernel_rfl) (by kernel_rfl) (by kernel_rfl) (fun _ _ _ h => h) HS0.out (Or.inl ⟨by rfl, by (intro W hW; go_simp)⟩) ?_
        simp only [Act.put]
        refine wpAnyX_take1 (i := 5) (v := .slice (some ⟨g5, off5, none⟩) kc1 kk1) rfl (by kernel_rfl) (by kernel_rfl) (by kernel_rfl) (by kernel_rfl) (by kernel_rfl) (fun _ _ _ h => h) HS0.out (Or.inl ⟨by rfl, by (intro W hW; have z := keepc hW a2; go_simp)⟩) ?_
        simp only [Act.put]
        refine wpAnyX_take1 (i := 6) (v := .int .i64 (j : Int)) rfl (by kernel_rfl) (by kernel_rfl) (by kernel_rfl) (by kernel_rfl) (by kernel_rfl) (fun _ _ _ h => h) HS0.out (Or.inl ⟨by rfl, by (intro W hW; go_simp)⟩) ?_
        simp only [Act.put]
        refine wpAnyX_take1 (i := 7) (v := .pointer (some ⟨g5, off5 + j * 5, none⟩)) rfl (by kernel_rfl) (by kernel_rfl) (by kernel_rfl) (by kernel_rfl) (by kernel_rfl) (fun _ _ _ h => h) HS0.out (Or.inl ⟨by rfl, by (intro W hW; go_simp)⟩) ?_
        simp only [Act.put]
        refine wpAnyX_take1 (i := 8) (v := .agg #[.int .i64 p1.kind, .int .i64 p1.num, .string (bs p1.text), .slice la1 lc1 lk1, .int .i64 p1.pl]) rfl (by kernel_rfl) (by kernel_rfl) (by kernel_rfl) (by kernel_rfl) (by kernel_rfl) (fun _ _ _ h => h) HS0.out (Or.inl ⟨by rfl, by (intro W hW; have z0 := keepc hW x0; have z1 := keepc hW x1; have z2 := keepc hW x2; have z3 := keepc hW x3; have z4 := keepc hW x4; go_simp)⟩) ?_
        simp only [Act.put]
        refine wpAnyX_take1 (i := 9) (v := .pointer (some ⟨w.heap.size + 1, 0, none⟩)) rfl (by kernel_rfl) (by kernel_rfl) (by kernel_rfl) (by kernel_rfl) (by kernel_rfl) (fun _ _ _ h => h) HS0.out (Or.inl ⟨by rfl, by (intro W hW; go_simp)⟩) ?_
        simp only [Act.put]
        refine wpAnyX_take1 (i := 10) (v := .slice (some ⟨g', off', none⟩) n d) rfl (by kernel_rfl) (by kernel_rfl) (by kernel_rfl) (by kernel_rfl) (by kernel_rfl) (fun _ _ _ h => h) HS0.out (Or.inl ⟨by rfl, by (intro W hW; have z := keepc hW b0; go_simp)⟩) ?_
        simp only [Act.put]
        refine wpAnyX_take1 (i := 11) (v := .int .i64 (i : Int)) rfl (by kernel_rfl) (by kernel_rfl) (by kernel_rfl) (by kernel_rfl) (by kernel_rfl) (fun _ _ _ h => h) HS0.out (Or.inl ⟨by rfl, by (intro W hW; go_simp)⟩) ?_
        simp only [Act.put]
        refine wpAnyX_take1 (i := 12) (v := .pointer (some ⟨g', off' + i * 4, none⟩)) rfl (by kernel_rfl) (by kernel_rfl) (by kernel_rfl) (by kernel_rfl) (by kernel_rfl) (fun _ _ _ h => h) HS0.out (Or.inl ⟨by rfl, by (intro W hW; go_simp)⟩) ?_
        simp only [Act.put]
        refine wpAnyX_take1 (i := 13) (v := .pointer (some ⟨g', off' + i * 4 + 2, none⟩)) rfl (by kernel_rfl) (by kernel_rfl) (by kernel_rfl) (by kernel_rfl) (by kernel_rfl) (fun _ _ _ h => h) HS0.out (Or.inl ⟨by rfl, by (intro W hW; go_simp)⟩) ?_
        simp only [Act.put]
        refine wpAnyX_take1 (i := 14) (v := .slice (some ⟨g6, off6, none⟩) kc1 kk2) rfl (by kernel_rfl) (by kernel_rfl) (by kernel_rfl) (by kernel_rfl) (by kernel_rfl) (fun _ _ _ h => h) HS0.out (Or.inl ⟨by rfl, by (intro W hW; have z := keepc hW b2; go_simp)⟩) ?_
        simp only [Act.put]
        refine wpAnyX_take1 (i := 15) (v := .int .i64 (j : Int)) rfl (by kernel_rfl) (by kernel_rfl) (by kernel_rfl) (by kernel_rfl) (by kernel_rfl) (fun _ _ _ h => h) HS0.out (Or.inl ⟨by rfl, by (intro W hW; go_simp)⟩) ?_
        simp only [Act.put]
        refine wpAnyX_take1 (i := 16) (v := .pointer (some ⟨g6, off6 + j * 5, none⟩)) rfl (by kernel_rfl) (by kernel_rfl) (by kernel_rfl) (by kernel_rfl) (by kernel_rfl) (fun _ _ _ h => h) HS0.out (Or.inl ⟨by rfl, by (intro W hW; go_simp)⟩) ?_
        simp only [Act.put]
        refine wpAnyX_take1 (i := 17) (v := .agg #[.int .i64 p2.kind, .int .i64 p2.num, .string (bs p2.text), .slice la2 lc2 lk2, .int .i64 p2.pl]) rfl (by kernel_rfl) (by kernel_rfl) (by kernel_rfl) (by kernel_rfl) (by kernel_rfl) (fun _ _ _ h => h) HS0.out (Or.inl ⟨by rfl, by (intro W hW; have z0 := keepc hW y0; have z1 := keepc hW y1; have z2 := keepc hW y2; have z3 := keepc hW y3; have z4 := keepc hW y4; go_simp)⟩) ?_
        simp only [Act.put]
        clear x0 x1 x2 x3 x4 y0 y1 y2 y3 y4 a2 b2 a0 b0
        refine wpAnyX_one (i := 18) rfl (by kernel_rfl) (fun K hK => ?_)
        go_simp
        refine HKx.out.mono ?_
        rintro e' w3 ⟨rfl, hb3⟩
        refine hK.out _ _ (fun _ => hb3) ?_
        clear hK K
        refine wpAnyX_one (i := 19) rfl (by kernel_rfl) (fun K hK => ?_)
        go_simp
        refine hK.out _ _ (fun h => absurd rfl h) ?_
        clear hK K
        refine wpAnyX_done (by kernel_rfl) ?_ _
        have HN : Hid ((FoAt o S w3 s1 (some ⟨g5, off5 + (j + 1) * 5, none⟩) (kc1 - (j + 1)) ∧ FoAt o' S' w3 s2 (some ⟨g6, off6 + (j + 1) * 5, none⟩) (kc1 - (j + 1)) ∧ (plF s1 s2 && plI r1 r2) = D) ∧ (Below wo.heap.size wo w3 ∧ sameF s1 s2 = true)) := by
          obtain ⟨u1, _⟩ := HB.out
          exact ⟨⟨HR2.out.1.below hb3, HR2.out.2.1.below hb3, HX.out⟩, u1.trans (hb3.mono u1.size), HR2.out.2.2.2⟩
        clear hb3 HR2 HKx HX HB HS0
        go_wp2_with fail
        go_roundg (gk - 1)
        case measure => omega
        case rel => exact ⟨s1, s2, j + 1, by go_num, by omega, HN.out.1, HN.out.2⟩
      case neg =>
        replace hk : plE (p1, k1) (p2, k2) = false := by simpa using hk
        rw [hk] at HKx HE2
        have HX : Hid (D = false) := by
          show D = false
          have := HE2.out
          simpa using this.symm
        clear hk HE2
        go_wp2_with fail
        refine wp_region_X 19 (Below wr.heap.size wr) (by kernel_rfl) ?_
        refine wpAnyX_take1 (i := 0) (v := .pointer (some ⟨w.heap.size, 0, none⟩)) rfl (by kernel_rfl) (by kernel_rfl) (by kernel_rfl) (by kernel_rfl) (by kernel_rfl) (fun _ _ _ h => h) HS0.out (Or.inl ⟨by rfl, by (intro W hW; go_simp)⟩) ?_
        simp only [Act.put]
        refine wpAnyX_take1 (i := 1) (v := .slice (some ⟨g, off, none⟩) n c) rfl (by kernel_rfl) (by kernel_rfl) (by kernel_rfl) (by kernel_rfl) (by kernel_rfl) (fun _ _ _ h => h) HS0.out (Or.inl ⟨by rfl, by (intro W hW; have z := keepc hW a0; go_simp)⟩) ?_
        simp only [Act.put]
        refine wpAnyX_take1 (i := 2) (v := .int .i64 (i : Int)) rfl (by kernel_rfl) (by kernel_rfl) (by kernel_rfl) (by kernel_rfl) (by kernel_rfl) (fun _ _ _ h => h) HS0.out (Or.inl ⟨by rfl, by (intro W hW; go_simp)⟩) ?_
        simp only [Act.put]
        refine wpAnyX_take1 (i := 3) (v := .pointer (some ⟨g, off + i * 4, none⟩)) rfl (by kernel_rfl) (by kernel_rfl) (by kernel_rfl) (by kernel_rfl) (by kernel_rfl) (fun _ _ _ h => h) HS0.out (Or.inl ⟨by rfl, by (intro W hW; go_simp)⟩) ?_
        simp only [Act.put]
        refine wpAnyX_take1 (i := 4) (v := .pointer (some ⟨g, off + i * 4 + 2, none⟩)) rfl (by kernel_rfl) (by kernel_rfl) (by kernel_rfl) (by kernel_rfl) (by kernel_rfl) (fun _ _ _ h => h) HS0.out (Or.inl ⟨by rfl, by (intro W hW; go_simp)⟩) ?_
        simp only [Act.put]
        refine wpAnyX_take1 (i := 5) (v := .slice (some ⟨g5, off5, none⟩) kc1 kk1) rfl (by kernel_rfl) (by kernel_rfl) (by kernel_rfl) (by kernel_rfl) (by kernel_rfl) (fun _ _ _ h => h) HS0.out (Or.inl ⟨by rfl, by (intro W hW; have z := keepc hW a2; go_simp)⟩) ?_
        simp only [Act.put]
        refine wpAnyX_take1 (i := 6) (v := .int .i64 (j : Int)) rfl (by kernel_rfl) (by kernel_rfl) (by kernel_rfl) (by kernel_rfl) (by kernel_rfl) (fun _ _ _ h => h) HS0.out (Or.inl ⟨by rfl, by (intro W hW; go_simp)⟩) ?_
        simp only [Act.put]
        refine wpAnyX_take1 (i := 7) (v := .pointer (some ⟨g5, off5 + j * 5, none⟩)) rfl (by kernel_rfl) (by kernel_rfl) (by kernel_rfl) (by kernel_rfl) (by kernel_rfl) (fun _ _ _ h => h) HS0.out (Or.inl ⟨by rfl, by (intro W hW; go_simp)⟩) ?_
        simp only [Act.put]
        refine wpAnyX_take1 (i := 8) (v := .agg #[.int .i64 p1.kind, .int .i64 p1.num, .string (bs p1.text), .slice la1 lc1 lk1, .int .i64 p1.pl]) rfl (by kernel_rfl) (by kernel_rfl) (by kernel_rfl) (by kernel_rfl) (by kernel_rfl) (fun _ _ _ h => h) HS0.out (Or.inl ⟨by rfl, by (intro W hW; have z0 := keepc hW x0; have z1 := keepc hW x1; have z2 := keepc hW x2; have z3 := keepc hW x3; have z4 := keepc hW x4; go_simp)⟩) ?_
        simp only [Act.put]
        refine wpAnyX_take1 (i := 9) (v := .pointer (some ⟨w.heap.size + 1, 0, none⟩)) rfl (by kernel_rfl) (by kernel_rfl) (by kernel_rfl) (by kernel_rfl) (by kernel_rfl) (fun _ _ _ h => h) HS0.out (Or.inl ⟨by rfl, by (intro W hW; go_simp)⟩) ?_
        simp only [Act.put]
        refine wpAnyX_take1 (i := 10) (v := .slice (some ⟨g', off', none⟩) n d) rfl (by kernel_rfl) (by kernel_rfl) (by kernel_rfl) (by kernel_rfl) (by kernel_rfl) (fun _ _ _ h => h) HS0.out (Or.inl ⟨by rfl, by (intro W hW; have z := keepc hW b0; go_simp)⟩) ?_
        simp only [Act.put]
        refine wpAnyX_take1 (i := 11) (v := .int .i64 (i : Int)) rfl (by kernel_rfl) (by kernel_rfl) (by kernel_rfl) (by kernel_rfl) (by kernel_rfl) (fun _ _ _ h => h) HS0.out (Or.inl ⟨by rfl, by (intro W hW; go_simp)⟩) ?_
        simp only [Act.put]
        refine wpAnyX_take1 (i := 12) (v := .pointer (some ⟨g', off' + i * 4, none⟩)) rfl (by kernel_rfl) (by kernel_rfl) (by kernel_rfl) (by kernel_rfl) (by kernel_rfl) (fun _ _ _ h => h) HS0.out (Or.inl ⟨by rfl, by (intro W hW; go_simp)⟩) ?_
        simp only [Act.put]
        refine wpAnyX_take1 (i := 13) (v := .pointer (some ⟨g', off' + i * 4 + 2, none⟩)) rfl (by kernel_rfl) (by kernel_rfl) (by kernel_rfl) (by kernel_rfl) (by kernel_rfl) (fun _ _ _ h => h) HS0.out (Or.inl ⟨by rfl, by (intro W hW; go_simp)⟩) ?_
        simp only [Act.put]
        refine wpAnyX_take1 (i := 14) (v := .slice (some ⟨g6, off6, none⟩) kc1 kk2) rfl (by kernel_rfl) (by kernel_rfl) (by kernel_rfl) (by kernel_rfl) (by kernel_rfl) (fun _ _ _ h => h) HS0.out (Or.inl ⟨by rfl, by (intro W hW; have z := keepc hW b2; go_simp)⟩) ?_
        simp only [Act.put]
        refine wpAnyX_take1 (i := 15) (v := .int .i64 (j : Int)) rfl (by kernel_rfl) (by kernel_rfl) (by kernel_rfl) (by kernel_rfl) (by kernel_rfl) (fun _ _ _ h => h) HS0.out (Or.inl ⟨by rfl, by (intro W hW; go_simp)⟩) ?_
        simp only [Act.put]
        refine wpAnyX_take1 (i := 16) (v := .pointer (some ⟨g6, off6 + j * 5, none⟩)) rfl (by kernel_rfl) (by kernel_rfl) (by kernel_rfl) (by kernel_rfl) (by kernel_rfl) (fun _ _ _ h => h) HS0.out (Or.inl ⟨by rfl, by (intro W hW; go_simp)⟩) ?_
        simp only [Act.put]
        refine wpAnyX_take1 (i := 17) (v := .agg #[.int .i64 p2.kind, .int .i64 p2.num, .string (bs p2.text), .slice la2 lc2 lk2, .int .i64 p2.pl]) rfl (by kernel_rfl) (by kernel_rfl) (by kernel_rfl) (by kernel_rfl) (by kernel_rfl) (fun _ _ _ h => h) HS0.out (Or.inl ⟨by rfl, by (intro W hW; have z0 := keepc hW y0; have z1 := keepc hW y1; have z2 := keepc hW y2; have z3 := keepc hW y3; have z4 := keepc hW y4; go_simp)⟩) ?_
        simp only [Act.put]
        clear x0 x1 x2 x3 x4 y0 y1 y2 y3 y4 a2 b2 a0 b0
        refine wpAnyX_one (i := 18) rfl (by kernel_rfl) (fun K hK => ?_)
        go_simp
        refine HKx.out.mono ?_
        rintro e' w3 ⟨rfl, hb3⟩
        refine hK.out _ _ (fun _ => hb3) ?_
        clear hK K
        refine wpAnyX_one (i := 19) rfl (by kernel_rfl) (fun K hK => ?_)
        go_simp
        refine hK.out _ _ (fun h => absurd rfl h) ?_
        clear hK K
        refine wpAnyX_done (by kernel_rfl) ?_ _
        have HN : Hid (Below w.heap.size w w3) := by
          have h1 := HB.out.1.trans (hb3.mono HB.out.1.size)
          exact HR.out.2.2.2.1.trans (h1.mono HR.out.2.2.2.1.size)
        clear hb3 HR HR2 HKx HB HS0
        go_wp2
        go_ret
        exact ⟨ret_bool HX.out.symm, HN.out⟩

end Go.Proofs.Ytnnmhmlebffacaa
namespace Go.Proofs.Ytnnmhmlebffacaa
open Go.RowKit Go.Deep

theorem info3 : (Try.prog.info? 3).map (fun i => (i.zero, i.size, i.bytes)) = some (some (.int .i64 0), 1, 8) := by kernel_rfl
theorem cell_one (W : World) (u0 : Value) : ∀ (i : Nat) (u : Value), [u0][i]? = some u → (W.alloc (.cells #[u0] 3)).cell? ((⟨W.heap.size, 0, none⟩ : Addr).add i) = some u := by
  intro i u hi
  rw [Addr.add_lit, Nat.zero_add, cell_of_row _ _ _ _ _ _ (heap_alloc_new W _)]
  simpa using hi
theorem cell_two (w4 : World) (h2 : Hd) (k2 : Option Addr) (n2 c2 : Nat) : ∀ (i : Nat) (u : Value), (#[.int .i64 h2.kind, .int .i64 h2.num, .string (bs h2.text), .slice k2 n2 c2, .int .i64 h2.pl] : Array Value).toList[i]? = some u →
    ((w4.alloc (.cells #[.int .i64 h2.kind, .int .i64 h2.num, .string (bs h2.text), .slice k2 n2 c2, .int .i64 h2.pl] 35)).alloc (.cells #[.int .i64 h2.kind, .int .i64 h2.num, .string (bs h2.text), .slice k2 n2 c2, .int .i64 h2.pl] 35)).cell? ((⟨w4.heap.size + 1, 0, none⟩ : Addr).add i) = some u := by
  intro i u hi
  have h1 := heap_alloc_new (w4.alloc (.cells #[.int .i64 h2.kind, .int .i64 h2.num, .string (bs h2.text), .slice k2 n2 c2, .int .i64 h2.pl] 35)) (.cells #[.int .i64 h2.kind, .int .i64 h2.num, .string (bs h2.text), .slice k2 n2 c2, .int .i64 h2.pl] 35)
  rw [show (w4.alloc (.cells #[.int .i64 h2.kind, .int .i64 h2.num, .string (bs h2.text), .slice k2 n2 c2, .int .i64 h2.pl] 35)).heap.size = w4.heap.size + 1 by simp] at h1
  rw [Addr.add_lit, Nat.zero_add, cell_of_row _ _ _ _ _ _ h1]
  simpa using hi
theorem five_one (h2 : Hd) (k2 : Option Addr) (n2 c2 : Nat) : ∀ u ∈ (#[.int .i64 h2.kind, .int .i64 h2.num, .string (bs h2.text), .slice k2 n2 c2, .int .i64 h2.pl] : Array Value).toList, u.oneCell' = true := by
  intro u hu
  simp at hu
  rcases hu with rfl | rfl | rfl | rfl | rfl <;> rfl
theorem xs_five {e2 : Ex} {h2 : Hd} {k2 : Option Addr} {n2 c2 : Nat} (h : e2.1 = h2) : xsCells (e2, k2, n2, c2) = (#[.int .i64 h2.kind, .int .i64 h2.num, .string (bs h2.text), .slice k2 n2 c2, .int .i64 h2.pl] : Array Value).toList := by
  subst h; rfl
/-- What a rule of lists leaves. -/
def KPost (B b : Nat) (ta : Option Addr) (tn tc : Nat) (T : List Tk) (m : List Int) (X : Rs (List Ex)) (w : World) (e : Ending) (w' : World) : Prop :=
  ∃ ao n c, e = .returned (.slice ao n c) ∧ Kr B b w w' ∧ RIs B b ta tn tc T X.rest X.val.isNone (m ++ X.many) w' ∧ ∀ ks, X.val = some ks → n ≤ maxLen ∧ FoAt true (fun g => w.heap.size ≤ g) w' (ofL ks) ao n
set_option maxRecDepth 20000 in
set_option maxHeartbeats 8000000 in
theorem kidsR_calls {B b : Nat} {ta : Option Addr} {tn tc : Nat} {T : List Tk} (hT : ∀ t ∈ T, WdT t) (hBb : B ≤ b) (n : Nat) (ex : List Tk → Rs Ex) (hsuf : ∀ l, (ex l).rest <:+ l)
    (HE0 : ∀ l bad m w, RIs B b ta tn tc T l bad m w → l.length ≤ n → Calls Try.prog 46 #[.pointer (some ⟨b, 0, none⟩)] w (RPost B b ta tn tc T m (lift bad ex l) w)) (l : List Tk) (bad : Bool) (m : List Int) (w : World) (h : RIs B b ta tn tc T l bad m w) (hl : l.length ≤ n) :
    Calls Try.prog 95 #[.pointer (some ⟨b, 0, none⟩)] w (KPost B b ta tn tc T m (lift bad (kidsG ex) l) w) := by
  have hlt := h.lt
  have HE : Hid (∀ l m w, RIs B b ta tn tc T l false m w → l.length ≤ n → Calls Try.prog 46 #[.pointer (some ⟨b, 0, none⟩)] w (RPost B b ta tn tc T m (ex l) w)) := fun l m w h1 h2 => HE0 l false m w h1 h2
  obtain ⟨t0, r0, rfl⟩ := h.here1
  have ht0 := hT t0 (h.mem t0 (by simp))
  have h41 := h.len
  have HW0 : Hid (Calls Try.prog 45 #[.pointer (some ⟨b, 0, none⟩), .string ⟨#[40]⟩] w fun e w' => e = .returned (.tuple #[]) ∧ Kr B b w w' ∧ RIs B b ta tn tc T (if isW bad ⟨#[40]⟩ t0 then r0 else t0 :: r0) (!isW bad ⟨#[40]⟩ t0) m w') := h.wantsC _ (by decide) ht0
  have HX0 : Hid ((if isW bad ⟨#[40]⟩ t0 then r0 else t0 :: r0).length ≤ n ∧ (if isW bad ⟨#[40]⟩ t0 then r0 else t0 :: r0).length ≤ 4001 ∧ ((!isW bad ⟨#[40]⟩ t0) = true → (lift bad (kidsG ex) (t0 :: r0)).val = none ∧ (lift bad (kidsG ex) (t0 :: r0)).rest = (if isW bad ⟨#[40]⟩ t0 then r0 else t0 :: r0)) ∧
      ((!isW bad ⟨#[40]⟩ t0) = false → EqR (lift bad (kidsG ex) (t0 :: r0)) (closeG [41] (headG ex mx [] (if isW bad ⟨#[40]⟩ t0 then r0 else t0 :: r0))) m m)) := by
    simp only [List.length_cons] at hl h41
    cases hz : isW bad ⟨#[40]⟩ t0 with
    | true =>
      have hz' : (!bad && isT 6 [40] t0) = true := hz
      simp only [Bool.and_eq_true, Bool.not_eq_true'] at hz'
      obtain ⟨hb0, hi⟩ := hz'
      subst hb0
      refine ⟨by simp; omega, by simp; omega, fun e => (by cases e), fun _ => ?_⟩
      rw [lift_false, kidsG_head, signG, hi]
      exact ⟨rfl, rfl, rfl⟩
    | false =>
      refine ⟨by simp; omega, by simp; omega, fun _ => ?_, fun e => (by cases e)⟩
      cases bad with
      | true => exact ⟨rfl, rfl⟩
      | false =>
        have hi : isT 6 [40] t0 = false := by
          have hz' : (!false && isT 6 [40] t0) = false := hz
          simpa using hz'
        rw [lift_false, kidsG_head, signG, hi]
        exact ⟨rfl, rfl⟩
  generalize lift bad (kidsG ex) (t0 :: r0) = X at *
  generalize (if isW bad ⟨#[40]⟩ t0 then r0 else t0 :: r0) = l1 at *
  generalize (!isW bad ⟨#[40]⟩ t0) = bad1 at *
  clear h hl HE0 ht0 h41
  go_enter Try.func95, Try.ntmps95
  go_wp2_with fail
  refine HW0.out.mono ?_
  rintro e w1 ⟨rfl, hk1, hp1⟩
  have HK : Hid (KR B b ta tn tc T w l1 bad1 m [] (.slice none 0 0) 0 w1) := ⟨hp1, hk1, hlt, hBb, World.ownsRow_nil _ _ _ _⟩
  clear hk1 hp1 HW0
  go_wp2_with fail
  go_loopg [3] l1.length (fun kk v wr => ∃ (l' : List Tk) (bad' : Bool) (m' : List Int) (xs : List Xs) (ao : Option Addr) (c cap : Nat), v = .slice ao c cap ∧ l'.length = kk ∧ Hid (KR B b ta tn tc T w l' bad' m' xs (.slice ao c cap) c wr) ∧ Hid (l'.length ≤ n ∧ (bad' = true → X.val = none ∧ X.rest = l') ∧ (bad' = false → KX w xs (.slice ao c cap) wr ∧ ∃ m2, l'.length ≤ m2 ∧ EqR X (closeG [41] (headG ex m2 (xs.map (·.1)) l')) m m') ∧ xs.length + l'.length ≤ 4100 ∧ (bad' = false → 0 < xs.length → m'.length + 1 + l'.length ≤ 4200)))
  case atStart => exact ⟨l1, bad1, m, [], none, 0, 0, rfl, rfl, HK.out, HX0.out.1, HX0.out.2.2.1, fun e => ⟨(fun x hx => by cases hx), mx, HX0.out.2.1, HX0.out.2.2.2 e⟩, by have := HX0.out.2.1; simp; omega, fun _ h0 => by cases h0⟩
  case round =>
    clear HK HX0
    obtain ⟨l', bad', m', xs, ao, c, cap, rfl, rfl, HKR, HL⟩ := hrel
    obtain ⟨t, r, hlr⟩ := HKR.out.p.here1
    have HLR : Hid (l' = t :: r) := hlr
    have htt := hT t (HKR.out.p.mem t (by rw [hlr]; simp))
    obtain ⟨m9, hA9, _⟩ := HKR.out.p
    obtain ⟨k9, mv9, mn9, _, _, hb9, _⟩ := hA9.block
    have bw := blk (i := 2) hb9 rfl
    have HLm : Hid (c = xs.length) := HKR.out.len
    clear hlr hA9 hb9
    cases bad' with
    | true =>
      have HWt : Hid (Calls Try.prog 45 #[.pointer (some ⟨b, 0, none⟩), .string ⟨#[41]⟩] wr fun e w' => e = .returned (.tuple #[]) ∧ Kr B b wr w' ∧ RIs B b ta tn tc T l' true m' w') := by
        have h9 := HKR.out.p
        rw [HLR.out] at h9 ⊢
        exact h9.wantsC _ (by decide) htt
      have HL2 : Hid (X.val = none ∧ X.rest = l') := HL.out.2.1 rfl
      clear htt HE HL
      go_wp2_with fail
      refine HWt.out.mono ?_
      rintro e w2 ⟨rfl, hk2, hp2⟩
      have H9 : Hid (KPost B b ta tn tc T m X w (.returned (.slice ao c cap)) w2) := by
        refine ⟨ao, c, cap, rfl, HKR.out.kr.trans hk2, ?_, fun ks hks => by rw [HL2.out.1] at hks; cases hks⟩
        rw [HL2.out.1, HL2.out.2]
        exact hp2.any _
      clear hk2 hp2 HWt HL2 HKR
      go_wp2
      go_ret
      exact H9.out
    | false =>
      obtain ⟨hX0, m2, hQ1, hQ2⟩ := HL.out.2.2.1 rfl
      have HQ0 : Hid (l'.length ≤ m2 ∧ EqR X (closeG [41] (headG ex m2 (xs.map (·.1)) l')) m m') := ⟨hQ1, hQ2⟩
      have HS1 : Hid (KR B b ta tn tc T w l' false m' xs (.slice ao c cap) c wr ∧ KX w xs (.slice ao c cap) wr) := ⟨HKR.out, hX0⟩
      have HLn : Hid (l'.length ≤ n ∧ xs.length + l'.length ≤ 4100) := ⟨HL.out.1, HL.out.2.2.2.1⟩
      have HCn : Hid (0 < xs.length → m'.length + 1 + l'.length ≤ 4200) := fun h0 => HL.out.2.2.2.2 rfl h0
      have hc4 : c ≤ 4100 := by have h3 := HLm.out; have h4 := HLn.out.2; omega
      clear hX0 hQ1 hQ2 HL HKR htt
      by_cases h8 : c = 8
      · have hb8 : ((c : Int) == 8) = true := by rw [beq_iff_eq]; omega
        have H8c : Hid (c = 8) := h8
        clear h8
        obtain ⟨m0, hA0, hm0⟩ := HS1.out.1.p
        have hm1 := hm0 rfl
        subst hm1
        obtain ⟨k, mv, mn, hk, hkT, hb, hown⟩ := hA0.block
        obtain ⟨ma, mc, rfl⟩ := owned_shape hown
        have HML : Hid (mn = m0.length) := by show mn = m0.length; have := hown.1; simpa using this.symm
        have HS0 : Hid ((fun W : World => W.heap[b]? = some (.cells #[.slice ta tn tc, .int .i64 (k : Int), .bool false, .slice ma mn mc] 58 (0, 0))) wr.drew) := hb
        have HD : Hid (KR B b ta tn tc T w l' false m0 xs (.slice ao c cap) c wr.drew ∧ KX w xs (.slice ao c cap) wr.drew) := ⟨HS1.out.1.next (Below.refl _ _).drew, HS1.out.2.next (Below.refl _ _).drew⟩
        have HNx : Hid (Calls Try.prog 26 #[.pointer (some ⟨b, 0, none⟩)] wr.drew fun e w' => e = .returned (.agg #[.int .i64 t.kind, .int .i64 t.num, .string (bs t.text), .int .i64 (t.pl : Int)]) ∧ Below wr.drew.heap.size wr.drew w') := by
          have h9 := HD.out.1.p
          rw [HLR.out] at h9
          exact h9.nextC
        have HOw : Hid (wr.drew.ownsRow B 3 1 (.slice ma mn mc) mn (m0.map fun z => .int .i64 z) ∧ wr.drew.heap[b]? = some (.cells #[.slice ta tn tc, .int .i64 (k : Int), .bool false, .slice ma mn mc] 58 (0, 0)) ∧ B ≤ wr.drew.heap.size) := ⟨owned_of_block hown fun g _ _ _ => rfl, hb, by have := HD.out.1.nB; have := HD.out.1.p.lt; omega⟩
        have hfd := fld48_3
        clear hA0 hm0 hk hkT hb hown HS1
        go_wp2_with fail
        refine wp_region_X 12 (fun W : World => W.heap[b]? = some (.cells #[.slice ta tn tc, .int .i64 (k : Int), .bool false, .slice ma mn mc] 58 (0, 0))) (by kernel_rfl) ?_
        refine wpAnyX_take1 (i := 0) (v := .pointer (some ⟨b, 0, none⟩)) rfl (by kernel_rfl) (by kernel_rfl) (by kernel_rfl) (by kernel_rfl) (by kernel_rfl) (fun _ _ _ h => h) HS0.out (Or.inl ⟨by rfl, by (intro W hW; go_simp)⟩) ?_
        simp only [Act.put]
        refine wpAnyX_take1 (i := 1) (v := .pointer (some ⟨b, 0, none⟩)) rfl (by kernel_rfl) (by kernel_rfl) (by kernel_rfl) (by kernel_rfl) (by kernel_rfl) (fun _ _ _ h => h) HS0.out (Or.inl ⟨by rfl, by (intro W hW; go_simp)⟩) ?_
        simp only [Act.put]
        refine wpAnyX_take1 (i := 2) (v := .pointer (some ⟨b, 0, none⟩)) rfl (by kernel_rfl) (by kernel_rfl) (by kernel_rfl) (by kernel_rfl) (by kernel_rfl) (fun _ _ _ h => h) HS0.out (Or.inl ⟨by rfl, by (intro W hW; go_simp)⟩) ?_
        simp only [Act.put]
        refine wpAnyX_take1 (i := 3) (v := .pointer (some ⟨b, 3, none⟩)) rfl (by kernel_rfl) (by kernel_rfl) (by kernel_rfl) (by kernel_rfl) (by kernel_rfl) (fun _ _ _ h => h) HS0.out (Or.inl ⟨by rfl, by (intro W hW; go_simp)⟩) ?_
        simp only [Act.put]
        refine wpAnyX_take1 (i := 4) (v := .slice ma mn mc) rfl (by kernel_rfl) (by kernel_rfl) (by kernel_rfl) (by kernel_rfl) (by kernel_rfl) (fun _ _ _ h => h) HS0.out (Or.inl ⟨by rfl, by (intro W hW; have z := blk (i := 3) hW rfl; go_simp)⟩) ?_
        simp only [Act.put]
        refine wpAnyX_take1 (i := 5) (v := .pointer (some ⟨b, 0, none⟩)) rfl (by kernel_rfl) (by kernel_rfl) (by kernel_rfl) (by kernel_rfl) (by kernel_rfl) (fun _ _ _ h => h) HS0.out (Or.inl ⟨by rfl, by (intro W hW; go_simp)⟩) ?_
        simp only [Act.put]
        refine wpAnyX_one (i := 6) rfl (by kernel_rfl) (fun K hK => ?_)
        go_simp
        refine HNx.out.mono ?_
        rintro e w5 ⟨rfl, hb5⟩
        have h5b : w5.heap[b]? = some (.cells #[.slice ta tn tc, .int .i64 (k : Int), .bool false, .slice ma mn mc] 58 (0, 0)) := by rw [hb5.block b (lt_block HOw.out.2.1)]; exact HOw.out.2.1
        refine hK.out _ _ (fun _ => h5b) ?_
        clear hK K HNx HS0
        refine wpAnyX_one (i := 7) rfl (by kernel_rfl) (fun K hK => ?_)
        go_simp
        refine hK.out _ _ (fun _ => h5b) ?_
        clear hK K
        refine wpAnyX_one (i := 8) rfl (by kernel_rfl) (fun K hK => ?_)
        go_simp
        have h6b : (w5.alloc (.cells #[.int .i64 (t.pl : Int)] 3)).heap[b]? = some (.cells #[.slice ta tn tc, .int .i64 (k : Int), .bool false, .slice ma mn mc] 58 (0, 0)) := heap_old h5b
        refine hK.out _ _ (fun _ => h6b) ?_
        clear hK K
        have HB6 : Below wr.drew.heap.size wr.drew (w5.alloc (.cells #[.int .i64 (t.pl : Int)] 3)) := hb5.trans (((Below.refl _ _).alloc (Nat.le_refl _) _).mono hb5.size)
        have H6 : Hid (KR B b ta tn tc T w l' false m0 xs (.slice ao c cap) c (w5.alloc (.cells #[.int .i64 (t.pl : Int)] 3)) ∧ KX w xs (.slice ao c cap) (w5.alloc (.cells #[.int .i64 (t.pl : Int)] 3)) ∧ (w5.alloc (.cells #[.int .i64 (t.pl : Int)] 3)).ownsRow B 3 1 (.slice ma mn mc) mn (m0.map fun z => .int .i64 z)) := ⟨HD.out.1.next HB6, HD.out.2.next HB6, owned_of_block HOw.out.1 fun g _ _ hx => HB6.block g (lt_block hx)⟩
        have hBs : B ≤ (w5.alloc (.cells #[.int .i64 (t.pl : Int)] 3)).heap.size := by have := HB6.size; have := HOw.out.2.2; omega
        obtain ⟨i0, hi0, hz0, hz1, hz2⟩ := info_parts info3
        refine wpAnyX_one (i := 9) rfl (by kernel_rfl) (fun K hK => ?_)
        rw [if_pos (by rfl)]
        have hcn := HCn.out (by have h3 := HLm.out; have h4 := H8c.out; omega)
        refine wp_append_fresh _ _ _ 56 rfl B 3 i0 (.int .i64 0) 1 8 Try.underlying56 hi0 hz0 hz1 hz2 rfl (by decide) (.slice ma mn mc) mn (m0.map fun z => .int .i64 z) rfl H6.out.2.2 ⟨w5.heap.size, 0, none⟩ 1 1 [.int .i64 (t.pl : Int)] rfl rfl (cell_one w5 _) (by simp [Value.oneCell']) (by have := HML.out; unfold maxLen; omega) (by have := HML.out; omega) hBs ?_
        intro v' w6 hown' hgrow' hfr'
        obtain ⟨g1, g2, g3⟩ := H6.out.1.p.noted h6b H6.out.2.2 hcn hown' hgrow'
        obtain ⟨ma2, mc2, rfl⟩ := owned_shape hown'
        refine hK.out _ _ (fun _ => ?_) ?_
        · exact g1
        clear hK K
        refine wpAnyX_one (i := 10) rfl (by kernel_rfl) (fun K hK => ?_)
        go_simp
        refine hK.out _ _ (fun _ => g1) ?_
        clear hK K
        refine wpAnyX_one (i := 11) rfl (by kernel_rfl) (fun K hK => ?_)
        go_simp
        refine hK.out _ _ (fun _ => g1) ?_
        clear hK K
        have g4 := blk (i := 3) g1 rfl
        have g5 := blkf 3 g1
        refine wpAnyX_one (i := 12) rfl (by kernel_rfl) (fun K hK => ?_)
        go_simp
        refine hK.out _ _ (fun h => absurd rfl h) ?_
        clear hK K
        refine wpAnyX_done (by kernel_rfl) ?_ _
        have HS : Hid (KR B b ta tn tc T w l' false (m0 ++ [(t.pl : Int)]) xs (.slice ao c cap) c (w6.setCell ⟨b, 3, none⟩ (.slice ma2 (mn + 1) mc2)) ∧ KX w xs (.slice ao c cap) (w6.setCell ⟨b, 3, none⟩ (.slice ma2 (mn + 1) mc2))) := ⟨H6.out.1.go g2 g3, H6.out.2.1.go g2 h6b⟩
        generalize w6.setCell ⟨b, 3, none⟩ (.slice ma2 (mn + 1) mc2) = wn at *
        obtain ⟨m5, hm5⟩ : ∃ m5, m5 = m0 ++ [(t.pl : Int)] := ⟨_, rfl⟩
        rw [← hm5] at HS
        have HQ : Hid (l'.length ≤ m2 ∧ EqR X (closeG [41] ((ex l').bind fun e l2 => kidsGo ex m2 (xs.map (·.1) ++ [e]) l2)) m m5) := by
          obtain ⟨q1, q2⟩ := HQ0.out
          refine ⟨q1, ?_⟩
          rw [hm5]
          unfold headG at q2
          rw [note_pre, close_pre, if_pos (by rw [List.length_map, ← HLm.out]; simp [H8c.out])] at q2
          refine ⟨q2.1, q2.2.1, ?_⟩
          rw [q2.2.2, HLR.out]
          simp [pre, plOf]
        clear g1 g2 g3 g4 g5 h5b h6b hb5 H6 HOw HD HB6 hBs hown' hgrow' hfr' hm5 HQ0 hcn HML hfd
        go_wp2_with fail
        refine (HE.out l' m5 _ HS.out.1.p HLn.out.1).mono ?_
        rintro e w4 ⟨h2, k2, n2, c2, rfl, hk4, hp4, hE4⟩
        obtain ⟨t2, r2, hr2⟩ := hp4.here1
        have ht2 : WdT t2 := hT t2 (hp4.mem t2 (by rw [hr2]; simp))
        obtain ⟨e2, HE2⟩ : ∃ e2 : Ex, Hid (e2.1 = h2 ∧ ∀ a, (ex l').val = some a → a = e2) := by
          cases hv : (ex l').val with
          | none => exact ⟨(h2, .nil), rfl, fun a ha => by cases ha⟩
          | some a => exact ⟨a, (hE4 a hv).1, fun a' ha => by cases ha; rfl⟩
        have hsz4 : w.heap.size ≤ w4.heap.size := Nat.le_trans HS.out.1.kr.size hk4.size
        have H4 : Hid (∀ o o', KR B b ta tn tc T w (ex l').rest (ex l').val.isNone (m5 ++ (ex l').many) xs (.slice ao c cap) c ((w4.alloc o).alloc o') ∧ KX w xs (.slice ao c cap) ((w4.alloc o).alloc o') ∧ ∀ a, (ex l').val = some a → ExAt true (fun g => w.heap.size ≤ g ∧ some g ≠ (Value.slice ao c cap).ownBlock) ((w4.alloc o).alloc o') a k2 n2) := fun o o' => by
          have hb9 := below_two w4 o o'
          obtain ⟨cs, hb⟩ := HS.out.1.p.own
          refine ⟨(HS.out.1.go hk4 hp4).next hb9, (HS.out.2.go hk4 hb).next hb9, fun a ha => ?_⟩
          refine ((hE4 a ha).2.base fun g _ hg => ⟨?_, fun e => ?_⟩).below hb9
          · have h3 : wn.heap.size ≤ g := hg
            have := HS.out.1.kr.size
            omega
          · have := (HS.out.1.own.lt g e.symm).2
            have h3 : wn.heap.size ≤ g := hg
            omega
        have HB4 : Hid (∀ o o', w.heap.size ≤ ((w4.alloc o).alloc o').heap.size) := fun o o' => by simp; omega
        have HRs : Hid ((ex l').rest = t2 :: r2) := hr2
        clear hk4 hp4 hE4 hr2 HE HS
        obtain ⟨i0, hi0, hz0, hz1, hz2⟩ := info_parts info35
        go_wp2_with (at_builtin; go_loud (refine wpList_append_fresh rfl _ _ 33 rfl w.heap.size 35 i0 (.agg #[.int .i64 0, .int .i64 0, .string ByteArray.empty, .slice none 0 0, .int .i64 0]) 5 64 Try.underlying33 hi0 hz0 hz1 hz2 rfl (by decide) (.slice ao c cap) c (xRow xs) rfl (H4.out _ _).1.own ⟨_, 0, none⟩ 1 1 #[.int .i64 h2.kind, .int .i64 h2.num, .string (bs h2.text), .slice k2 n2 c2, .int .i64 h2.pl].toList rfl rfl (cell_two w4 h2 k2 n2 c2) (five_one h2 k2 n2 c2) (by unfold maxLen; omega) (by omega) (HB4.out _ _) ?_); intro v' w7 hown' hgrow' hfr')
        have hA7 := (H4.out _ _).1.add (x := (e2, k2, n2, c2)) (by rw [xs_five HE2.out.1]; exact hown') hgrow' hfr'
        obtain ⟨ao7, cap7, rfl⟩ := owned_shape hown'
        have H7 : Hid (KR B b ta tn tc T w (t2 :: r2) (ex l').val.isNone (m5 ++ (ex l').many) (xs ++ [(e2, k2, n2, c2)]) (.slice ao7 (c + 1) cap7) (c + 1) w7 ∧ ((ex l').val.isNone = false → KX w (xs ++ [(e2, k2, n2, c2)]) (.slice ao7 (c + 1) cap7) w7)) := by
          rw [← HRs.out]
          refine ⟨hA7.1, fun hv => ?_⟩
          cases hx : (ex l').val with
          | none => rw [hx] at hv; cases hv
          | some a =>
            have ha := HE2.out.2 a hx
            exact hA7.2 a (H4.out _ _).2.1 ((H4.out _ _).2.2 a hx) ha.symm
        clear hA7 hown' hgrow' hfr' H4 HB4
        have HTk : Hid (∀ W, RIs B b ta tn tc T (t2 :: r2) (ex l').val.isNone (m5 ++ (ex l').many) W → Calls Try.prog 75 #[.pointer (some ⟨b, 0, none⟩), .string ⟨#[44]⟩] W fun e w' => e = .returned (.bool (isW (ex l').val.isNone ⟨#[44]⟩ t2)) ∧ Kr B b W w' ∧ RIs B b ta tn tc T (if isW (ex l').val.isNone ⟨#[44]⟩ t2 then r2 else t2 :: r2) (ex l').val.isNone (m5 ++ (ex l').many) w') := fun W hW => hW.takesC _ (by decide) ht2
        have HWt : Hid (∀ W, RIs B b ta tn tc T (t2 :: r2) (ex l').val.isNone (m5 ++ (ex l').many) W → Calls Try.prog 45 #[.pointer (some ⟨b, 0, none⟩), .string ⟨#[41]⟩] W fun e w' => e = .returned (.tuple #[]) ∧ Kr B b W w' ∧ RIs B b ta tn tc T (if isW (ex l').val.isNone ⟨#[41]⟩ t2 then r2 else t2 :: r2) (!isW (ex l').val.isNone ⟨#[41]⟩ t2) (m5 ++ (ex l').many) w') := fun W hW => hW.wantsC _ (by decide) ht2
        clear ht2
        cases hz : isW (ex l').val.isNone ⟨#[44]⟩ t2 with
        | true =>
          rw [hz] at HTk
          have hv : (ex l').val.isNone = false ∧ isT 6 [44] t2 = true := by
            have hz' : (!(ex l').val.isNone && isT 6 [44] t2) = true := hz
            simpa using hz'
          clear HWt hz
          go_wp2_with fail
          refine (HTk.out _ H7.out.1.p).mono ?_
          rintro e w8 ⟨rfl, hk8, hp8⟩
          simp only [if_true] at hp8
          have HCn : Hid ((m5 ++ (ex l').many).length + 1 + r2.length ≤ 4200) := by
            obtain ⟨m9, g1, g2⟩ := H7.out.1.p
            have g3 := g1.cnt hv.1
            rw [g2 hv.1] at g3
            have : (t2 :: r2).length = r2.length + 1 := rfl
            show (m5 ++ (ex l').many).length + 1 + r2.length ≤ 4200
            omega
          have H8 : Hid (KR B b ta tn tc T w r2 false (m5 ++ (ex l').many) (xs ++ [(e2, k2, n2, c2)]) (.slice ao7 (c + 1) cap7) (c + 1) w8 ∧ KX w (xs ++ [(e2, k2, n2, c2)]) (.slice ao7 (c + 1) cap7) w8) := by
            rw [hv.1] at hp8
            obtain ⟨cs, hb⟩ := H7.out.1.p.own
            exact ⟨H7.out.1.go hk8 hp8, (H7.out.2 hv.1).go hk8 hb⟩
          obtain ⟨m6, HN⟩ : ∃ m6, Hid (r2.length ≤ m6 ∧ r2.length < l'.length ∧ EqR X (closeG [41] (headG ex m6 ((xs ++ [(e2, k2, n2, c2)]).map (·.1)) r2)) m (m5 ++ (ex l').many)) := by
            cases hx : (ex l').val with
            | none => rw [hx] at hv; cases hv.1
            | some a =>
              have ha := HE2.out.2 a hx
              subst ha
              have hs := suf_len (hsuf l')
              rw [HRs.out] at hs
              have hq := HQ.out.2
              rw [bind_pre _ hx, close_pre, HRs.out] at hq
              have h4 := HQ.out.1
              cases m2 with
              | zero => simp at hs; omega
              | succ m2 =>
                rw [kidsGo, hv.2] at hq
                refine ⟨m2, by simp at hs; omega, by simp at hs; omega, ?_⟩
                refine ⟨by rw [hq.1]; simp [headG, pre], by rw [hq.2.1]; simp [headG, pre], ?_⟩
                rw [hq.2.2]; simp [headG, pre]
          clear hk8 hp8 H7 HTk HQ hv
          go_wp2_with fail
          go_roundg r2.length
          case measure => exact HN.out.2.1
          case rel =>
            refine ⟨r2, false, m5 ++ (ex l').many, xs ++ [(e2, k2, n2, c2)], ao7, c + 1, cap7, rfl, rfl, H8.out.1, ⟨?_, (fun e => by cases e), fun _ => ⟨H8.out.2, m6, HN.out.1, HN.out.2.2⟩, ?_, fun _ _ => HCn.out⟩⟩
            · have := HLn.out.1; have := HN.out.2.1; omega
            · have := HLn.out.2; have := HN.out.2.1; simp; omega
        | false =>
          rw [hz] at HTk
          have HN : Hid (X.rest = (if isW (ex l').val.isNone ⟨#[41]⟩ t2 then r2 else t2 :: r2) ∧ X.val.isNone = (!isW (ex l').val.isNone ⟨#[41]⟩ t2) ∧ (X.val.isNone = false → m ++ X.many = m5 ++ (ex l').many ∧ (ex l').val.isNone = false ∧ X.val = some ((xs ++ [(e2, k2, n2, c2)]).map (·.1)))) := by
            have hq := HQ.out.2
            cases hx : (ex l').val with
            | none =>
              have h1 : ((ex l').bind fun e l2 => kidsGo ex m2 (xs.map (·.1) ++ [e]) l2).val = none := by rw [bind_none _ hx]
              unfold closeG at hq
              rw [bind_none _ h1, bind_none _ hx] at hq
              have hy : isW (none : Option Ex).isNone ⟨#[41]⟩ t2 = false := rfl
              refine ⟨by rw [hq.2.1, hy]; exact HRs.out, by rw [hq.1, hy]; rfl, fun e => by rw [hq.1] at e; cases e⟩
            | some a =>
              have ha := HE2.out.2 a hx
              subst ha
              rw [bind_pre _ hx, close_pre, HRs.out] at hq
              have h4 := HQ.out.1
              have hs := suf_len (hsuf l')
              rw [HRs.out] at hs
              have hc : isT 6 [44] t2 = false := by
                rw [hx] at hz
                have hz' : (!(some a : Option Ex).isNone && isT 6 [44] t2) = false := hz
                simpa using hz'
              cases m2 with
              | zero => simp at hs; omega
              | succ m2 =>
                rw [kidsGo, hc] at hq
                have hy : isW (some a : Option Ex).isNone ⟨#[41]⟩ t2 = isT 6 [41] t2 := by show (!false && isT 6 [41] t2) = _; rfl
                rw [hy]
                cases hd : isT 6 [41] t2 with
                | true =>
                  have hq2 : closeG [41] (pure' (xs.map (·.1) ++ [a]) (t2 :: r2)) = pure' (xs.map (·.1) ++ [a]) r2 := by
                    unfold closeG; rw [pure_bind, signG, hd]; rfl
                  simp only [Bool.false_eq_true, if_false] at hq
                  rw [hq2] at hq
                  refine ⟨by rw [hq.2.1]; rfl, by rw [hq.1]; rfl, fun _ => ⟨by rw [hq.2.2]; simp [pre, pure'], rfl, by rw [hq.1]; simp [pre, pure']⟩⟩
                | false =>
                  have hq2 : closeG [41] (pure' (xs.map (·.1) ++ [a]) (t2 :: r2)) = ⟨none, t2 :: r2, []⟩ := by
                    unfold closeG; rw [pure_bind, signG, hd]; rfl
                  simp only [Bool.false_eq_true, if_false] at hq
                  rw [hq2] at hq
                  refine ⟨by rw [hq.2.1]; rfl, by rw [hq.1]; rfl, fun e => by rw [hq.1] at e; cases e⟩
          clear hz HQ
          go_wp2_with fail
          refine (HTk.out _ H7.out.1.p).mono ?_
          rintro e w8 ⟨rfl, hk8, hp8⟩
          simp only [Bool.false_eq_true, if_false] at hp8
          have H8 : Hid (KR B b ta tn tc T w (t2 :: r2) (ex l').val.isNone (m5 ++ (ex l').many) (xs ++ [(e2, k2, n2, c2)]) (.slice ao7 (c + 1) cap7) (c + 1) w8 ∧ ((ex l').val.isNone = false → KX w (xs ++ [(e2, k2, n2, c2)]) (.slice ao7 (c + 1) cap7) w8)) := by
            obtain ⟨cs, hb⟩ := H7.out.1.p.own
            exact ⟨H7.out.1.go hk8 hp8, fun hv => (H7.out.2 hv).go hk8 hb⟩
          clear hk8 hp8 H7 HTk
          go_wp2_with fail
          refine (HWt.out _ H8.out.1.p).mono ?_
          rintro e w9 ⟨rfl, hk9, hp9⟩
          have H9 : Hid (KPost B b ta tn tc T m X w (.returned (.slice ao7 (c + 1) cap7)) w9) := by
            obtain ⟨y1, y2, y3⟩ := HN.out
            obtain ⟨cs, hb⟩ := H8.out.1.p.own
            have hK := H8.out.1.go hk9 hp9
            refine ⟨ao7, c + 1, cap7, rfl, hK.kr, ?_, fun ks hks => ?_⟩
            · rw [y1, y2]
              cases hq : isW (ex l').val.isNone ⟨#[41]⟩ t2 with
              | false => rw [hq] at hp9; exact hp9.any _
              | true =>
                rw [hq] at hp9 y2
                rw [(y3 y2).1]; exact hp9
            · have hn : X.val.isNone = false := by rw [hks]; rfl
              obtain ⟨_, z2, z3⟩ := y3 hn
              rw [z3] at hks
              cases hks
              exact ⟨by unfold maxLen; omega, hK.done ((H8.out.2 z2).go hk9 hb) rfl⟩
          clear hk9 hp9 H8 HWt HN
          go_wp2
          go_ret
          exact H9.out
      · have hb8 : ((c : Int) == 8) = false := by rw [beq_eq_false_iff_ne]; omega
        have H8c : Hid (¬ c = 8) := h8
        clear h8
        obtain ⟨m5, hm5⟩ : ∃ m5, m5 = m' := ⟨_, rfl⟩
        rw [← hm5] at HS1
        have HS : Hid (KR B b ta tn tc T w l' false m5 xs (.slice ao c cap) c wr ∧ KX w xs (.slice ao c cap) wr) := HS1
        have HQ : Hid (l'.length ≤ m2 ∧ EqR X (closeG [41] ((ex l').bind fun e l2 => kidsGo ex m2 (xs.map (·.1) ++ [e]) l2)) m m5) := by
          obtain ⟨q1, q2⟩ := HQ0.out
          refine ⟨q1, ?_⟩
          rw [hm5]
          unfold headG at q2
          rw [note_pre, close_pre, if_neg (by rw [List.length_map, ← HLm.out]; simp [H8c.out])] at q2
          exact q2
        clear hm5 HQ0 HS1
        go_wp2_with fail
        refine (HE.out l' m5 _ HS.out.1.p HLn.out.1).mono ?_
        rintro e w4 ⟨h2, k2, n2, c2, rfl, hk4, hp4, hE4⟩
        obtain ⟨t2, r2, hr2⟩ := hp4.here1
        have ht2 : WdT t2 := hT t2 (hp4.mem t2 (by rw [hr2]; simp))
        obtain ⟨e2, HE2⟩ : ∃ e2 : Ex, Hid (e2.1 = h2 ∧ ∀ a, (ex l').val = some a → a = e2) := by
          cases hv : (ex l').val with
          | none => exact ⟨(h2, .nil), rfl, fun a ha => by cases ha⟩
          | some a => exact ⟨a, (hE4 a hv).1, fun a' ha => by cases ha; rfl⟩
        have hsz4 : w.heap.size ≤ w4.heap.size := Nat.le_trans HS.out.1.kr.size hk4.size
        have H4 : Hid (∀ o o', KR B b ta tn tc T w (ex l').rest (ex l').val.isNone (m5 ++ (ex l').many) xs (.slice ao c cap) c ((w4.alloc o).alloc o') ∧ KX w xs (.slice ao c cap) ((w4.alloc o).alloc o') ∧ ∀ a, (ex l').val = some a → ExAt true (fun g => w.heap.size ≤ g ∧ some g ≠ (Value.slice ao c cap).ownBlock) ((w4.alloc o).alloc o') a k2 n2) := fun o o' => by
          have hb9 := below_two w4 o o'
          obtain ⟨cs, hb⟩ := HS.out.1.p.own
          refine ⟨(HS.out.1.go hk4 hp4).next hb9, (HS.out.2.go hk4 hb).next hb9, fun a ha => ?_⟩
          refine ((hE4 a ha).2.base fun g _ hg => ⟨?_, fun e => ?_⟩).below hb9
          · have h3 : wr.heap.size ≤ g := hg
            have := HS.out.1.kr.size
            omega
          · have := (HS.out.1.own.lt g e.symm).2
            have h3 : wr.heap.size ≤ g := hg
            omega
        have HB4 : Hid (∀ o o', w.heap.size ≤ ((w4.alloc o).alloc o').heap.size) := fun o o' => by simp; omega
        have HRs : Hid ((ex l').rest = t2 :: r2) := hr2
        clear hk4 hp4 hE4 hr2 HE HS
        obtain ⟨i0, hi0, hz0, hz1, hz2⟩ := info_parts info35
        go_wp2_with (at_builtin; go_loud (refine wpList_append_fresh rfl _ _ 33 rfl w.heap.size 35 i0 (.agg #[.int .i64 0, .int .i64 0, .string ByteArray.empty, .slice none 0 0, .int .i64 0]) 5 64 Try.underlying33 hi0 hz0 hz1 hz2 rfl (by decide) (.slice ao c cap) c (xRow xs) rfl (H4.out _ _).1.own ⟨_, 0, none⟩ 1 1 #[.int .i64 h2.kind, .int .i64 h2.num, .string (bs h2.text), .slice k2 n2 c2, .int .i64 h2.pl].toList rfl rfl (cell_two w4 h2 k2 n2 c2) (five_one h2 k2 n2 c2) (by unfold maxLen; omega) (by omega) (HB4.out _ _) ?_); intro v' w7 hown' hgrow' hfr')
        have hA7 := (H4.out _ _).1.add (x := (e2, k2, n2, c2)) (by rw [xs_five HE2.out.1]; exact hown') hgrow' hfr'
        obtain ⟨ao7, cap7, rfl⟩ := owned_shape hown'
        have H7 : Hid (KR B b ta tn tc T w (t2 :: r2) (ex l').val.isNone (m5 ++ (ex l').many) (xs ++ [(e2, k2, n2, c2)]) (.slice ao7 (c + 1) cap7) (c + 1) w7 ∧ ((ex l').val.isNone = false → KX w (xs ++ [(e2, k2, n2, c2)]) (.slice ao7 (c + 1) cap7) w7)) := by
          rw [← HRs.out]
          refine ⟨hA7.1, fun hv => ?_⟩
          cases hx : (ex l').val with
          | none => rw [hx] at hv; cases hv
          | some a =>
            have ha := HE2.out.2 a hx
            exact hA7.2 a (H4.out _ _).2.1 ((H4.out _ _).2.2 a hx) ha.symm
        clear hA7 hown' hgrow' hfr' H4 HB4
        have HTk : Hid (∀ W, RIs B b ta tn tc T (t2 :: r2) (ex l').val.isNone (m5 ++ (ex l').many) W → Calls Try.prog 75 #[.pointer (some ⟨b, 0, none⟩), .string ⟨#[44]⟩] W fun e w' => e = .returned (.bool (isW (ex l').val.isNone ⟨#[44]⟩ t2)) ∧ Kr B b W w' ∧ RIs B b ta tn tc T (if isW (ex l').val.isNone ⟨#[44]⟩ t2 then r2 else t2 :: r2) (ex l').val.isNone (m5 ++ (ex l').many) w') := fun W hW => hW.takesC _ (by decide) ht2
        have HWt : Hid (∀ W, RIs B b ta tn tc T (t2 :: r2) (ex l').val.isNone (m5 ++ (ex l').many) W → Calls Try.prog 45 #[.pointer (some ⟨b, 0, none⟩), .string ⟨#[41]⟩] W fun e w' => e = .returned (.tuple #[]) ∧ Kr B b W w' ∧ RIs B b ta tn tc T (if isW (ex l').val.isNone ⟨#[41]⟩ t2 then r2 else t2 :: r2) (!isW (ex l').val.isNone ⟨#[41]⟩ t2) (m5 ++ (ex l').many) w') := fun W hW => hW.wantsC _ (by decide) ht2
        clear ht2
        cases hz : isW (ex l').val.isNone ⟨#[44]⟩ t2 with
        | true =>
          rw [hz] at HTk
          have hv : (ex l').val.isNone = false ∧ isT 6 [44] t2 = true := by
            have hz' : (!(ex l').val.isNone && isT 6 [44] t2) = true := hz
            simpa using hz'
          clear HWt hz
          go_wp2_with fail
          refine (HTk.out _ H7.out.1.p).mono ?_
          rintro e w8 ⟨rfl, hk8, hp8⟩
          simp only [if_true] at hp8
          have HCn : Hid ((m5 ++ (ex l').many).length + 1 + r2.length ≤ 4200) := by
            obtain ⟨m9, g1, g2⟩ := H7.out.1.p
            have g3 := g1.cnt hv.1
            rw [g2 hv.1] at g3
            have : (t2 :: r2).length = r2.length + 1 := rfl
            show (m5 ++ (ex l').many).length + 1 + r2.length ≤ 4200
            omega
          have H8 : Hid (KR B b ta tn tc T w r2 false (m5 ++ (ex l').many) (xs ++ [(e2, k2, n2, c2)]) (.slice ao7 (c + 1) cap7) (c + 1) w8 ∧ KX w (xs ++ [(e2, k2, n2, c2)]) (.slice ao7 (c + 1) cap7) w8) := by
            rw [hv.1] at hp8
            obtain ⟨cs, hb⟩ := H7.out.1.p.own
            exact ⟨H7.out.1.go hk8 hp8, (H7.out.2 hv.1).go hk8 hb⟩
          obtain ⟨m6, HN⟩ : ∃ m6, Hid (r2.length ≤ m6 ∧ r2.length < l'.length ∧ EqR X (closeG [41] (headG ex m6 ((xs ++ [(e2, k2, n2, c2)]).map (·.1)) r2)) m (m5 ++ (ex l').many)) := by
            cases hx : (ex l').val with
            | none => rw [hx] at hv; cases hv.1
            | some a =>
              have ha := HE2.out.2 a hx
              subst ha
              have hs := suf_len (hsuf l')
              rw [HRs.out] at hs
              have hq := HQ.out.2
              rw [bind_pre _ hx, close_pre, HRs.out] at hq
              have h4 := HQ.out.1
              cases m2 with
              | zero => simp at hs; omega
              | succ m2 =>
                rw [kidsGo, hv.2] at hq
                refine ⟨m2, by simp at hs; omega, by simp at hs; omega, ?_⟩
                refine ⟨by rw [hq.1]; simp [headG, pre], by rw [hq.2.1]; simp [headG, pre], ?_⟩
                rw [hq.2.2]; simp [headG, pre]
          clear hk8 hp8 H7 HTk HQ hv
          go_wp2_with fail
          go_roundg r2.length
          case measure => exact HN.out.2.1
          case rel =>
            refine ⟨r2, false, m5 ++ (ex l').many, xs ++ [(e2, k2, n2, c2)], ao7, c + 1, cap7, rfl, rfl, H8.out.1, ⟨?_, (fun e => by cases e), fun _ => ⟨H8.out.2, m6, HN.out.1, HN.out.2.2⟩, ?_, fun _ _ => HCn.out⟩⟩
            · have := HLn.out.1; have := HN.out.2.1; omega
            · have := HLn.out.2; have := HN.out.2.1; simp; omega
        | false =>
          rw [hz] at HTk
          have HN : Hid (X.rest = (if isW (ex l').val.isNone ⟨#[41]⟩ t2 then r2 else t2 :: r2) ∧ X.val.isNone = (!isW (ex l').val.isNone ⟨#[41]⟩ t2) ∧ (X.val.isNone = false → m ++ X.many = m5 ++ (ex l').many ∧ (ex l').val.isNone = false ∧ X.val = some ((xs ++ [(e2, k2, n2, c2)]).map (·.1)))) := by
            have hq := HQ.out.2
            cases hx : (ex l').val with
            | none =>
              have h1 : ((ex l').bind fun e l2 => kidsGo ex m2 (xs.map (·.1) ++ [e]) l2).val = none := by rw [bind_none _ hx]
              unfold closeG at hq
              rw [bind_none _ h1, bind_none _ hx] at hq
              have hy : isW (none : Option Ex).isNone ⟨#[41]⟩ t2 = false := rfl
              refine ⟨by rw [hq.2.1, hy]; exact HRs.out, by rw [hq.1, hy]; rfl, fun e => by rw [hq.1] at e; cases e⟩
            | some a =>
              have ha := HE2.out.2 a hx
              subst ha
              rw [bind_pre _ hx, close_pre, HRs.out] at hq
              have h4 := HQ.out.1
              have hs := suf_len (hsuf l')
              rw [HRs.out] at hs
              have hc : isT 6 [44] t2 = false := by
                rw [hx] at hz
                have hz' : (!(some a : Option Ex).isNone && isT 6 [44] t2) = false := hz
                simpa using hz'
              cases m2 with
              | zero => simp at hs; omega
              | succ m2 =>
                rw [kidsGo, hc] at hq
                have hy : isW (some a : Option Ex).isNone ⟨#[41]⟩ t2 = isT 6 [41] t2 := by show (!false && isT 6 [41] t2) = _; rfl
                rw [hy]
                cases hd : isT 6 [41] t2 with
                | true =>
                  have hq2 : closeG [41] (pure' (xs.map (·.1) ++ [a]) (t2 :: r2)) = pure' (xs.map (·.1) ++ [a]) r2 := by
                    unfold closeG; rw [pure_bind, signG, hd]; rfl
                  simp only [Bool.false_eq_true, if_false] at hq
                  rw [hq2] at hq
                  refine ⟨by rw [hq.2.1]; rfl, by rw [hq.1]; rfl, fun _ => ⟨by rw [hq.2.2]; simp [pre, pure'], rfl, by rw [hq.1]; simp [pre, pure']⟩⟩
                | false =>
                  have hq2 : closeG [41] (pure' (xs.map (·.1) ++ [a]) (t2 :: r2)) = ⟨none, t2 :: r2, []⟩ := by
                    unfold closeG; rw [pure_bind, signG, hd]; rfl
                  simp only [Bool.false_eq_true, if_false] at hq
                  rw [hq2] at hq
                  refine ⟨by rw [hq.2.1]; rfl, by rw [hq.1]; rfl, fun e => by rw [hq.1] at e; cases e⟩
          clear hz HQ
          go_wp2_with fail
          refine (HTk.out _ H7.out.1.p).mono ?_
          rintro e w8 ⟨rfl, hk8, hp8⟩
          simp only [Bool.false_eq_true, if_false] at hp8
          have H8 : Hid (KR B b ta tn tc T w (t2 :: r2) (ex l').val.isNone (m5 ++ (ex l').many) (xs ++ [(e2, k2, n2, c2)]) (.slice ao7 (c + 1) cap7) (c + 1) w8 ∧ ((ex l').val.isNone = false → KX w (xs ++ [(e2, k2, n2, c2)]) (.slice ao7 (c + 1) cap7) w8)) := by
            obtain ⟨cs, hb⟩ := H7.out.1.p.own
            exact ⟨H7.out.1.go hk8 hp8, fun hv => (H7.out.2 hv).go hk8 hb⟩
          clear hk8 hp8 H7 HTk
          go_wp2_with fail
          refine (HWt.out _ H8.out.1.p).mono ?_
          rintro e w9 ⟨rfl, hk9, hp9⟩
          have H9 : Hid (KPost B b ta tn tc T m X w (.returned (.slice ao7 (c + 1) cap7)) w9) := by
            obtain ⟨y1, y2, y3⟩ := HN.out
            obtain ⟨cs, hb⟩ := H8.out.1.p.own
            have hK := H8.out.1.go hk9 hp9
            refine ⟨ao7, c + 1, cap7, rfl, hK.kr, ?_, fun ks hks => ?_⟩
            · rw [y1, y2]
              cases hq : isW (ex l').val.isNone ⟨#[41]⟩ t2 with
              | false => rw [hq] at hp9; exact hp9.any _
              | true =>
                rw [hq] at hp9 y2
                rw [(y3 y2).1]; exact hp9
            · have hn : X.val.isNone = false := by rw [hks]; rfl
              obtain ⟨_, z2, z3⟩ := y3 hn
              rw [z3] at hks
              cases hks
              exact ⟨by unfold maxLen; omega, hK.done ((H8.out.2 z2).go hk9 hb) rfl⟩
          clear hk9 hp9 H8 HWt HN
          go_wp2
          go_ret
          exact H9.out

end Go.Proofs.Ytnnmhmlebffacaa
