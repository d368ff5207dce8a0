/-
  Right: lists of expressions. The walk of the document's own next.
-/
import Derived.RegionTactic
import Derived.BigRegion
import Derived.Test.YtnnmhmlebffacaaG21
import Derived.Test.YtnnmhmlebffacaaG37
namespace Go.Proofs.Ytnnmhmlebffacaa
open Go.RowKit Go.Deep

/-- All of a list are right, none deeper than that. -/
def rgtF : Nat → Fo → Bool
  | _, .nil => true
  | d, .node _ _ h k r => decide (d ≠ 0) && (hdRight h (lenF k) && (rgtF (d - 1) k && rgtF d r))
set_option maxRecDepth 20000 in
set_option maxHeartbeats 4000000 in
theorem rightAll_calls : ∀ (N : Nat) (F : Fo) (ao : Option Addr) (n c : Nat) (d : Nat) (w : World) (o : Bool) (S : Nat → Prop), FoAt o S w F ao n → n ≤ maxLen → d ≤ 32 → szF F < N →
    Calls Try.prog 51 #[.slice ao n c, .int .i64 (d : Int)] w fun e' w' => e' = .returned (.bool (rgtF d F)) ∧ Below w.heap.size w w'
  | 0, _, _, _, _, _, _, _, _, _, _, _, h => by omega
  | N + 1, F, ao, n, c, d, w, o, S, hF, hn, hd, hN => by
    have IH : Hid (∀ (F : Fo) (ao : Option Addr) (n c : Nat) (d : Nat) (w : World), FoAt o S w F ao n → n ≤ maxLen → d ≤ 32 → szF F < N →
      Calls Try.prog 51 #[.slice ao n c, .int .i64 (d : Int)] w fun e' w' => e' = .returned (.bool (rgtF d F)) ∧ Below w.heap.size w w') := fun F ao n c d w h1 h2 h3 h4 => rightAll_calls N F ao n c d w o S h1 h2 h3 h4
    have hn2 := hn
    unfold maxLen at hn2
    obtain ⟨g, off, hka, hF'⟩ := foAt_addr hF
    generalize hD : rgtF d F = D at *
    have H0 : Hid (FoAt o S w F (some ⟨g, off + 0 * 5, none⟩) (n - 0) ∧ szF F ≤ N ∧ rgtF d F = D) := ⟨hF', by omega, hD⟩
    clear hF hF' hD hN
    go_enter Try.func51, Try.ntmps51
    go_wp2_with fail
    go_loopg [9] n (fun k iv wr => ∃ (F' : Fo) (i : Nat), iv = .int .i64 (i : Int) ∧ i + k = n ∧ Hid (FoAt o S wr F' (some ⟨g, off + i * 5, none⟩) (n - i) ∧ szF F' ≤ N ∧ rgtF d F' = D ∧ Below w.heap.size w wr))
    case atStart => exact ⟨F, 0, rfl, by omega, H0.out.1, H0.out.2.1, H0.out.2.2, Below.refl _ _⟩
    case round =>
      clear H0
      obtain ⟨F', i, rfl, hik, HT⟩ := hrel
      by_cases hi : i < n
      · obtain ⟨b1, o1, h1, k1, r1, ka1, kc1, kk1, rfl, -, hok1, hkc1, ⟨c0, c1, c2, c3, c4⟩, hk1, hr1⟩ := foAt_head HT.out.1 hi
        have hka2 := hka (by omega)
        subst hka2
        have hbx : ∀ o', Below wr.heap.size wr (wr.alloc o') := fun o' => (Below.refl _ _).alloc (Nat.le_refl _) o'
        have HR : Hid (FoAt o S wr r1 (some ⟨g, off + (i + 1) * 5, none⟩) (n - (i + 1)) ∧ szF k1 < N ∧ szF r1 ≤ N ∧ (decide (d ≠ 0) && (hdRight h1 (lenF k1) && (rgtF (d - 1) k1 && rgtF d r1))) = D ∧ Below w.heap.size w wr) := by
          obtain ⟨_, h3, h4, h5⟩ := HT.out
          simp only [szF] at h3
          exact ⟨hr1, by omega, by omega, h4, h5⟩
        have HHd : Hid (∀ W, Calls Try.prog 78 #[.agg #[.int .i64 h1.kind, .int .i64 h1.num, .string (bs h1.text), .slice ka1 kc1 kk1, .int .i64 h1.pl]] W fun e w' => e = .returned (.bool (hdRight h1 (lenF k1))) ∧ Below W.heap.size W w') := fun W => by
          have := head_calls h1 ka1 kc1 kk1 W hkc1 hok1.text
          rw [foAt_len hk1] at this ⊢; exact this
        have HKd : Hid (0 < d → ∀ W, Below wr.heap.size wr W → Calls Try.prog 51 #[.slice ka1 kc1 kk1, .int .i64 ((d : Int) - 1)] W fun e' w' => e' = .returned (.bool (rgtF (d - 1) k1)) ∧ Below W.heap.size W w') := fun h0 W hW => by
          have := IH.out k1 ka1 kc1 kk1 (d - 1) W (hk1.below hW) hkc1 (by omega) HR.out.2.1
          rw [show ((d - 1 : Nat) : Int) = (d : Int) - 1 by omega] at this
          exact this
        have HBw : Hid (∀ o', Below w.heap.size w (wr.alloc o')) := fun o' => HR.out.2.2.2.2.trans ((hbx o').mono HR.out.2.2.2.2.size)
        have HNw : Hid ((wr.alloc (.cells #[.int .i64 h1.kind, .int .i64 h1.num, .string (bs h1.text), .slice ka1 kc1 kk1, .int .i64 h1.pl] 35)).heap[wr.heap.size]? = some (.cells #[.int .i64 h1.kind, .int .i64 h1.num, .string (bs h1.text), .slice ka1 kc1 kk1, .int .i64 h1.pl] 35 (0, 0))) := heap_alloc_new wr _
        have HBx : Hid (∀ o', Below wr.heap.size wr (wr.alloc o')) := hbx
        clear HT hk1 hr1 hok1 hkc1 IH hbx
        by_cases hd0 : d = 0
        · have q : ((d : Int) == 0) = true := by rw [beq_iff_eq]; omega
          have HX : Hid (D = false) := by show D = false; rw [← HR.out.2.2.2.1]; simp [hd0]
          clear HR HHd HKd hd0
          go_wp2
          go_ret
          exact ⟨ret_bool HX.out.symm, HBw.out _⟩
        · have q : ((d : Int) == 0) = false := by rw [beq_eq_false_iff_ne]; omega
          have HK2 := HKd.out (by omega)
          have HK3 : Hid (∀ W, Below wr.heap.size wr W → Calls Try.prog 51 #[.slice ka1 kc1 kk1, .int .i64 ((d : Int) - 1)] W fun e' w' => e' = .returned (.bool (rgtF (d - 1) k1)) ∧ Below W.heap.size W w') := HK2
          have HR' : Hid (FoAt o S wr r1 (some ⟨g, off + (i + 1) * 5, none⟩) (n - (i + 1)) ∧ szF r1 ≤ N ∧ (hdRight h1 (lenF k1) && (rgtF (d - 1) k1 && rgtF d r1)) = D ∧ Below w.heap.size w wr) := by
            obtain ⟨a1, _, a3, a4, a5⟩ := HR.out
            rw [show decide (d ≠ 0) = true by simp [hd0], Bool.true_and] at a4
            exact ⟨a1, a3, a4, a5⟩
          clear HR HKd HK2
          cases hh : hdRight h1 (lenF k1) with
          | false =>
            rw [hh] at HHd HR'
            go_wp2_with fail
            refine (HHd.out _).mono ?_
            rintro e' w3 ⟨rfl, hb3⟩
            have HX : Hid (D = false ∧ Below w.heap.size w w3) := ⟨by rw [← HR'.out.2.2.1]; simp, (HBw.out _).trans (hb3.mono (HBw.out _).size)⟩
            clear hb3 HR' HHd HBw HK3
            go_wp2
            go_ret
            exact ⟨ret_bool HX.out.1.symm, HX.out.2⟩
          | true =>
            rw [hh] at HHd HR'
            cases hk : rgtF (d - 1) k1 with
            | false =>
              rw [hk] at HK3 HR'
              go_wp2_with fail
              refine (HHd.out _).mono ?_
              rintro e' w3 ⟨rfl, hb3⟩
              have h35 : w3.heap[wr.heap.size]? = some (.cells #[.int .i64 h1.kind, .int .i64 h1.num, .string (bs h1.text), .slice ka1 kc1 kk1, .int .i64 h1.pl] 35 (0, 0)) := by rw [hb3.block _ (lt_block HNw.out)]; exact HNw.out
              have e3 := blk (i := 3) h35 rfl
              have HB3 : Hid (Below wr.heap.size wr w3 ∧ Below w.heap.size w w3) := ⟨below_box' hb3, (HBw.out _).trans (hb3.mono (HBw.out _).size)⟩
              clear hb3 h35 HHd HNw
              go_wp2_with fail
              refine (HK3.out _ HB3.out.1).mono ?_
              rintro e' w4 ⟨rfl, hb4⟩
              have HX : Hid (D = false ∧ Below w.heap.size w w4) := ⟨by rw [← HR'.out.2.2.1]; simp, HB3.out.2.trans (hb4.mono HB3.out.2.size)⟩
              clear hb4 HR' HBw HK3
              go_wp2
              go_ret
              exact ⟨ret_bool HX.out.1.symm, HX.out.2⟩
            | true =>
              rw [hk] at HK3 HR'
              go_wp2_with fail
              refine (HHd.out _).mono ?_
              rintro e' w3 ⟨rfl, hb3⟩
              have h35 : w3.heap[wr.heap.size]? = some (.cells #[.int .i64 h1.kind, .int .i64 h1.num, .string (bs h1.text), .slice ka1 kc1 kk1, .int .i64 h1.pl] 35 (0, 0)) := by rw [hb3.block _ (lt_block HNw.out)]; exact HNw.out
              have e3 := blk (i := 3) h35 rfl
              have HB3 : Hid (Below wr.heap.size wr w3 ∧ Below w.heap.size w w3) := ⟨below_box' hb3, (HBw.out _).trans (hb3.mono (HBw.out _).size)⟩
              clear hb3 h35 HHd HNw
              go_wp2_with fail
              refine (HK3.out _ HB3.out.1).mono ?_
              rintro e' w4 ⟨rfl, hb4⟩
              have HX : Hid (FoAt o S w4 r1 (some ⟨g, off + (i + 1) * 5, none⟩) (n - (i + 1)) ∧ szF r1 ≤ N ∧ rgtF d r1 = D ∧ Below w.heap.size w w4) := by
                obtain ⟨a1, a2, a3, a4⟩ := HR'.out
                have hb5 := HB3.out.1.trans (hb4.mono HB3.out.1.size)
                exact ⟨a1.below hb5, a2, by simpa using a3, a4.trans (hb5.mono a4.size)⟩
              clear hb4 HR' HBw HK3 HB3
              go_wp2_with fail
              go_roundg (gk - 1)
              case measure => omega
              case rel => exact ⟨r1, i + 1, by go_num, by omega, HX.out⟩
      · have HX : Hid (D = true ∧ Below w.heap.size w wr) := by
          obtain ⟨a1, _, a4, a5⟩ := HT.out
          rw [show n - i = 0 by omega] at a1
          rw [foAt_end a1] at a4
          exact ⟨a4.symm, a5⟩
        clear HT
        go_wp2
        go_ret
        exact ⟨ret_bool HX.out.1.symm, HX.out.2⟩
end Go.Proofs.Ytnnmhmlebffacaa
namespace Go.Proofs.Ytnnmhmlebffacaa
open Go.RowKit

theorem first_ok {S : List UInt8} {k n : Int} {t : List UInt8} {l : Nat} (h : firstA S = (k, n, t, l, 0)) : errB S = 0 ∧ kindB S = k ∧ (numB S : Int) = n ∧ textB S = t ∧ lenB S = l := by
  unfold firstA at h
  split at h
  · rename_i he
    cases h
    exact ⟨he, rfl, rfl, rfl, rfl⟩
  · rename_i he
    simp at h
    exact absurd h.2.2.2.2 he
theorem first_wrong {S : List UInt8} {z : Int} (h : firstA S = (0, 0, [], 0, z)) (hz : z ≠ 0) : errB S = z := by
  unfold firstA at h
  split at h
  · simp at h; exact absurd h.2.2.2.2.symm hz
  · simp at h; exact h
/-- What the document's next leaves. -/
def NextPost (S : List UInt8) (p : Nat) (w : World) (e : Ending) (w' : World) : Prop :=
  ∃ (k n : Int) (x : ByteArray) (y b : Int), e = .returned (.tuple #[.agg #[.int .i64 k, .int .i64 n, .string x, .int .i64 y], .int .i64 b, .int .i64 (errB S)]) ∧ (errB S = 0 → k = kindB S ∧ n = (numB S : Int) ∧ x = bs (textB S) ∧ y = (p : Int) ∧ b = ((p + lenB S : Nat) : Int)) ∧ Below w.heap.size w w'
theorem next_ok {S : List UInt8} {p : Nat} {w w' : World} {k n b : Int} {t : List UInt8} {l : Nat} (h : firstA S = (k, n, t, l, 0)) (hb : b = (p : Int) + (l : Int)) (hw : Below w.heap.size w w') :
    NextPost S p w (.returned (.tuple #[.agg #[.int .i64 k, .int .i64 n, .string (bs t), .int .i64 (p : Int)], .int .i64 b, .int .i64 0])) w' := by
  obtain ⟨h1, h2, h3, h4, h5⟩ := first_ok h
  refine ⟨k, n, bs t, p, b, by rw [h1], fun _ => ⟨h2.symm, h3.symm, by rw [h4], rfl, by rw [h5, hb]; omega⟩, hw⟩
theorem next_okx {S : List UInt8} {p : Nat} {w w' : World} {k n b : Int} {t : List UInt8} {l : Nat} {x : ByteArray} (h : firstA S = (k, n, t, l, 0)) (hx : x = bs t) (hb : b = (p : Int) + (l : Int)) (hw : Below w.heap.size w w') :
    NextPost S p w (.returned (.tuple #[.agg #[.int .i64 k, .int .i64 n, .string x, .int .i64 (p : Int)], .int .i64 b, .int .i64 0])) w' := by
  subst hx; exact next_ok h hb hw
theorem next_wrong {S : List UInt8} {p : Nat} {w w' : World} {z k n y : Int} {x : ByteArray} (h : firstA S = (0, 0, [], 0, z)) (hz : z ≠ 0) (hw : Below w.heap.size w w') :
    NextPost S p w (.returned (.tuple #[.agg #[.int .i64 k, .int .i64 n, .string x, .int .i64 y], .int .i64 0, .int .i64 z])) w' := by
  have h1 := first_wrong h hz
  exact ⟨k, n, x, y, 0, by rw [h1], fun h0 => absurd (h1.symm.trans h0) hz, hw⟩
/-- The answer and the token under way. -/
structure NxAt (w : World) (p : Nat) (W : World) : Prop where
  low : Below w.heap.size w W
  ans : W.heap[w.heap.size]? = some (.cells zero4 48 (0, 0))
  tok : W.heap[w.heap.size + 1]? = some (.cells #[.int .i64 0, .int .i64 0, .string ⟨#[]⟩, .int .i64 (p : Int)] 48 (0, 0))
theorem NxAt.next {w W W' : World} {p : Nat} (h : NxAt w p W) (hb : Below W.heap.size W W') : NxAt w p W' :=
  ⟨h.low.trans (hb.mono h.low.size), keepB h.ans hb, keepB h.tok hb⟩
theorem nxAt_start (w : World) (p : Nat) : NxAt w p ((w.alloc (.cells zero4 48 (0, 0))).alloc (.cells #[.int .i64 0, .int .i64 0, .string ⟨#[]⟩, .int .i64 (p : Int)] 48 (0, 0))) := by
  refine ⟨((Below.refl _ _).alloc (Nat.le_refl _) _).alloc (by simp) _, ?_, ?_⟩
  · have h := (Below.refl (w.alloc (.cells zero4 48 (0, 0))).heap.size (w.alloc (.cells zero4 48 (0, 0)))).alloc (Nat.le_refl _) (.cells #[.int .i64 0, .int .i64 0, .string ⟨#[]⟩, .int .i64 (p : Int)] 48 (0, 0))
    rw [h.block _ (by simp)]; exact heap_alloc_new w _
  · have h := heap_alloc_new (w.alloc (.cells zero4 48 (0, 0))) (.cells #[.int .i64 0, .int .i64 0, .string ⟨#[]⟩, .int .i64 (p : Int)] 48 (0, 0))
    simpa using h
theorem numO_dig {c : UInt8} {r : List UInt8} (h : isDig c = true) : firstA (c :: r) = numA (runB (c :: r)) := first_dig h

set_option maxRecDepth 20000 in
set_option maxHeartbeats 8000000 in
theorem next_run (s : ByteArray) (p : Nat) (w : World) (hs : s.size ≤ 4000) (hp : p < s.size) (hpt : isPart s[p] = true) :
    Calls Try.prog 42 #[.string s, .int .i64 (p : Int)] w fun e w' => NextPost (s.data.toList.drop p) p w e w' := by
  have hres : Try.f42.results = #[.cell 4 48, .tmp 5, .tmp 6] := by kernel_rfl
  have HR : Hid (∀ w, Calls Try.prog 68 #[.string s, .int .i64 (p : Int)] w fun e w' => e = .returned (.string (bs (runB (s.data.toList.drop p)))) ∧ w' = w) := fun w => refRun_calls s p w hs (by omega)
  have hD : s.data.toList.drop p = s[p] :: s.data.toList.drop (p + 1) := drop_at (getElem?_at s p hp)
  have hRl : (runB (s.data.toList.drop p)).length ≤ s.size := Nat.le_trans (runB_le _) (by rw [List.length_drop, size_toList]; omega)
  have hR1 : 1 ≤ (runB (s.data.toList.drop p)).length := by rw [hD]; exact run_pos hpt
  have hR0 : (runB (s.data.toList.drop p))[0]? = some s[p] := by rw [hD]; simp [runB, hpt]
  have HF : Hid (firstA (s.data.toList.drop p) = if isDig s[p] then numA (runB (s.data.toList.drop p)) else namA (runB (s.data.toList.drop p))) := by
    show _ = _
    rw [hD]
    cases hdg : isDig s[p] with
    | true => rw [if_pos rfl]; exact first_dig hdg
    | false => rw [if_neg (by decide)]; exact first_part hdg hpt
  generalize hrun : runB (s.data.toList.drop p) = run at *
  obtain ⟨R, hR⟩ : ∃ R : ByteArray, R = bs run := ⟨_, rfl⟩
  have hRs : R.size = run.length := by rw [hR, bs_size]
  have hRd : R.data.toList = run := by rw [hR, bs_list]
  have hRp : 0 < R.size := by omega
  have hRle : R.size ≤ 4000 := by omega
  have hc0 : R[0] = s[p] := by
    have h1 := getElem?_at R 0 hRp
    rw [hRd, hR0] at h1
    exact (Option.some.inj h1).symm
  have hne : (R.toList == []) = false := by
    rw [ByteArray.toList_eq, hRd, beq_eq_false_iff_ne]
    intro e; rw [e] at hR1; simp at hR1
  have HD : Hid (∀ w, Calls Try.prog 69 #[.int .u8 (R[0].toNat : Int)] w fun e w' => e = .returned (.bool (isDig s[p])) ∧ w' = w) := fun w => by
    have h := digit_calls R[0] w
    rw [hc0] at h ⊢; exact h
  have HNum : Hid (∀ w, Calls Try.prog 70 #[.string R] w fun e w' => e = .returned (.tuple #[.int .i64 (((numO run).getD 0 : Nat) : Int), .bool (numO run).isSome]) ∧ w' = w) := fun w => by
    have h := refNumber_calls R w hRle
    rw [hRd] at h; exact h
  have HWd : Hid (∀ w, Calls Try.prog 71 #[.string R] w fun e w' => e = .returned (.bool (wordB run)) ∧ Below w.heap.size w w') := fun w => by
    have h := refWord_calls R w
    rw [hRd] at h; exact h
  have HNm : Hid (∀ w, Calls Try.prog 53 #[.string R] w fun e w' => e = .returned (.bool (nameB run)) ∧ Below w.heap.size w w') := fun w => by
    have h := refName_calls R w
    rw [hRd] at h; exact h
  rw [← hR] at HR
  have HRb : Hid (R = bs run ∧ R.size = run.length) := ⟨hR, hRs⟩
  have hu8 := UInt8.toNat_lt R[0]
  clear hD hRl hR1 hR0 hrun hR hRs hRd hc0 hpt
  generalize hdS : s.data.toList.drop p = S at *
  clear hdS
  go_enter Try.func42, Try.ntmps42
  go_wp2_with fail
  refine (HR.out _).mono ?_
  rintro e w1 ⟨rfl, hw1⟩
  have hnx : NxAt w p w1 := by rw [hw1]; exact nxAt_start w p
  clear hw1 HR
  obtain ⟨z0, z1, z2, z3, zf⟩ := block4 hnx.ans
  obtain ⟨y0, y1, y2, y3, yf⟩ := block4 hnx.tok
  have HL : Hid (NxAt w p w1) := hnx
  clear hnx
  cases hdg : isDig s[p] with
  | true =>
    rw [hdg] at HD HF
    have HF2 : Hid (firstA S = numA run) := HF.out
    clear hdg HF HWd HNm
    cases hnum : numO run with
    | none =>
      rw [hnum] at HNum
      have HE : Hid (firstA S = (0, 0, [], 0, 61)) := by
        show _ = _
        rw [HF2.out, numA_none hnum]
      clear hnum HF2
      go_wp2_with (first
        | (go_at_call 69; refine (HD.out _).mono ?_; rintro e w' ⟨rfl, rfl⟩)
        | (go_at_call 70; refine (HNum.out _).mono ?_; rintro e w' ⟨rfl, rfl⟩))
      refine bodyPost_ret (v := .tuple #[.agg #[.int .i64 0, .int .i64 0, .string ⟨#[]⟩, .int .i64 (p : Int)], .int .i64 0, .int .i64 61]) ?_ rfl (next_wrong HE.out (by decide) ?_)
      · simp only [results, hres]
        go_simp
      · exact below4 HL.out.low (Nat.le_refl _) _ _ _ _
    | some n =>
      rw [hnum] at HNum
      have HE : Hid (firstA S = (2, (n : Int), [], R.size, 0)) := by
        show _ = _
        rw [HF2.out, numA_some hnum, HRb.out.2]
      clear hnum HF2
      go_wp2_with (first
        | (go_at_call 69; refine (HD.out _).mono ?_; rintro e w' ⟨rfl, rfl⟩)
        | (go_at_call 70; refine (HNum.out _).mono ?_; rintro e w' ⟨rfl, rfl⟩))
      refine bodyPost_ret (v := .tuple #[.agg #[.int .i64 2, .int .i64 n, .string ⟨#[]⟩, .int .i64 (p : Int)], .int .i64 ((p : Int) + (R.size : Int)), .int .i64 0]) ?_ rfl (next_ok (t := []) HE.out rfl ?_)
      · simp only [results, hres]
        go_simp
      · exact below4 ((HL.out.low.setCell (Nat.le_succ _) _).setCell (Nat.le_succ _) _) (Nat.le_refl _) _ _ _ _
  | false =>
    rw [hdg] at HD HF
    have HF2 : Hid (firstA S = namA run) := HF.out
    clear hdg HF HNum z0 z1 z2 z3 zf y0 y1 y2 y3 yf
    go_wp2_with (go_at_call 69; refine (HD.out _).mono ?_; rintro e w' ⟨rfl, rfl⟩)
    refine (HWd.out _).mono ?_
    rintro e w2 ⟨rfl, hb2⟩
    have HL2 : Hid (NxAt w p w2) := HL.out.next hb2
    clear hb2 HL HWd
    go_wp2_with fail
    refine (HNm.out _).mono ?_
    rintro e w3 ⟨rfl, hb3⟩
    have hnx := HL2.out.next hb3
    obtain ⟨z0, z1, z2, z3, zf⟩ := block4 hnx.ans
    obtain ⟨y0, y1, y2, y3, yf⟩ := block4 hnx.tok
    have HL : Hid (NxAt w p w3) := hnx
    clear hb3 hnx HL2 HNm
    have HRx : Hid (R = bs run) := HRb.out.1
    cases hwd : wordB run with
    | true =>
      have HE : Hid (firstA S = (4, 0, run, R.size, 0)) := by
        show _ = _
        rw [HF2.out, HRb.out.2]; unfold namA; rw [if_pos hwd]
      clear hwd HF2
      generalize nameB run = nb at *
      go_wp2
      refine bodyPost_ret (v := .tuple #[.agg #[.int .i64 4, .int .i64 0, .string R, .int .i64 (p : Int)], .int .i64 ((p : Int) + (R.size : Int)), .int .i64 0]) ?_ rfl (next_okx HE.out HRx.out rfl ?_)
      · simp only [results, hres]
        go_simp
      · exact below4 (((HL.out.low.setCell (Nat.le_succ _) _).setCell (Nat.le_succ _) _).setCell (Nat.le_succ _) _) (Nat.le_refl _) _ _ _ _
    | false =>
      cases hnb : nameB run with
      | true =>
        have HE : Hid (firstA S = (3, 0, run, R.size, 0)) := by
          show _ = _
          rw [HF2.out, HRb.out.2]; unfold namA; rw [if_neg (by rw [hwd]; decide), if_pos hnb]
        clear hwd hnb HF2
        go_wp2
        refine bodyPost_ret (v := .tuple #[.agg #[.int .i64 3, .int .i64 0, .string R, .int .i64 (p : Int)], .int .i64 ((p : Int) + (R.size : Int)), .int .i64 0]) ?_ rfl (next_okx HE.out HRx.out rfl ?_)
        · simp only [results, hres]
          go_simp
        · exact below4 ((HL.out.low.setCell (Nat.le_succ _) _).setCell (Nat.le_succ _) _) (Nat.le_refl _) _ _ _ _
      | false =>
        have HE : Hid (firstA S = (0, 0, [], 0, 62)) := by
          show _ = _
          rw [HF2.out]; unfold namA; rw [if_neg (by rw [hwd]; decide), if_neg (by rw [hnb]; decide)]
        clear hwd hnb HF2
        go_wp2
        refine bodyPost_ret (v := .tuple #[.agg #[.int .i64 3, .int .i64 0, .string R, .int .i64 (p : Int)], .int .i64 0, .int .i64 62]) ?_ rfl (next_wrong HE.out (by decide) ?_)
        · simp only [results, hres]
          go_simp
        · exact below4 ((HL.out.low.setCell (Nat.le_succ _) _).setCell (Nat.le_succ _) _) (Nat.le_refl _) _ _ _ _

theorem inner_no34 (r : List UInt8) : ∀ c ∈ innerB r, c ≠ 34 := by
  intro c hc e
  subst e
  exact headB_free 34 r hc
theorem isTxt_inner (r : List UInt8) : isTxtB (innerB r) = (decide ((innerB r).length ≤ 40) && (innerB r).all inText) := by
  unfold isTxtB
  have h : (innerB r).all inText' = (innerB r).all inText := by
    rw [Bool.eq_iff_iff, List.all_eq_true, List.all_eq_true]
    constructor
    · intro h c hc
      have := h c hc
      simp only [inText', Bool.and_eq_true] at this
      exact this.1
    · intro h c hc
      simp only [inText', Bool.and_eq_true, bne_iff_ne]
      exact ⟨h c hc, inner_no34 r c hc⟩
  rw [h, Bool.and_comm]
theorem first_sign {c : UInt8} {r : List UInt8} (hp : isPart c = false) (hq : c ≠ 34) : firstA (c :: r) = if signB (c :: r) = [] then (0, 0, [], 0, 60) else signA (signB (c :: r)) := by
  by_cases hpp : c = 46 ∧ r.head? = some 46
  · have e : signB (c :: r) = [46, 46] := by rw [signB, if_pos hpp]
    rw [e, if_neg (by simp)]
    obtain ⟨rfl, h⟩ := hpp
    cases r with
    | nil => cases h
    | cons d t => simp at h; subst h; exact first_points
  · cases hm : isMark c with
    | true =>
      have e : signB (c :: r) = [c] := by rw [signB, if_neg hpp, if_pos hm]
      rw [e, if_neg (by simp)]; exact first_mark hp hq hm
    | false =>
      have e : signB (c :: r) = [] := by rw [signB, if_neg hpp, if_neg (by rw [hm]; decide)]
      rw [e, if_pos rfl]
      by_cases h46 : c = 46
      · subst h46
        exact first_point fun h => hpp ⟨rfl, h⟩
      · exact first_stray hp hq hm h46
set_option maxRecDepth 20000 in
set_option maxHeartbeats 8000000 in
theorem next_other (s : ByteArray) (p : Nat) (w : World) (hs : s.size ≤ 4000) (hp : p < s.size) (hpt : isPart s[p] = false) :
    Calls Try.prog 42 #[.string s, .int .i64 (p : Int)] w fun e w' => NextPost (s.data.toList.drop p) p w e w' := by
  have hres : Try.f42.results = #[.cell 4 48, .tmp 5, .tmp 6] := by kernel_rfl
  have hD : s.data.toList.drop p = s[p] :: s.data.toList.drop (p + 1) := drop_at (getElem?_at s p hp)
  have HR : Hid (∀ w, Calls Try.prog 68 #[.string s, .int .i64 (p : Int)] w fun e w' => e = .returned (.string ⟨#[]⟩) ∧ w' = w) := fun w => by
    have h := refRun_calls s p w hs (by omega)
    have e : runB (s.data.toList.drop p) = [] := by rw [hD]; simp [runB, hpt]
    rw [e] at h; exact h
  have HT : Hid (∀ w, Calls Try.prog 72 #[.string s, .int .i64 (p : Int)] w fun e w' => e = .returned (.tuple #[.string (bs (textO (s.data.toList.drop (p + 1))).1), .bool (textO (s.data.toList.drop (p + 1))).2]) ∧ w' = w) := fun w => refText_calls s p w hs hp
  have HG : Hid (∀ w, Calls Try.prog 74 #[.string s, .int .i64 (p : Int)] w fun e w' => ∃ n, e = .returned (.string (bs (signB (s.data.toList.drop p)))) ∧ w' = w.drewN n) := fun w => refSign_calls s p w hs hp
  have hu8 := UInt8.toNat_lt s[p]
  by_cases hq : s[p] = 34
  · have hb : ((s[p].toNat : Int) == 34) = true := by rw [hq]; rfl
    have HF : Hid (firstA (s.data.toList.drop p) = textA (s.data.toList.drop (p + 1))) := by
      show _ = _
      rw [hD, hq]; exact first_quote
    obtain ⟨X, hX⟩ : ∃ X : ByteArray, X = bs (textO (s.data.toList.drop (p + 1))).1 := ⟨_, rfl⟩
    have hXd : X.data.toList = (textO (s.data.toList.drop (p + 1))).1 := by rw [hX, bs_list]
    have hXl : X.size ≤ 4000 := by
      rw [← size_toList, hXd]
      unfold textO
      split
      · exact Nat.le_trans (innerB_le _) (by rw [List.length_drop, size_toList]; omega)
      · simp
    have HI : Hid (∀ w, Calls Try.prog 73 #[.string X] w fun e w' => e = .returned (.bool (isTxtB (textO (s.data.toList.drop (p + 1))).1)) ∧ w' = w) := fun w => by
      have h := isText_calls X w hXl
      rw [hXd] at h; exact h
    rw [← hX] at HT
    have HXs : Hid (X = bs (textO (s.data.toList.drop (p + 1))).1) := hX
    clear hX hq hpt hD HG
    generalize s.data.toList.drop p = S at *
    generalize s.data.toList.drop (p + 1) = r at *
    by_cases h34 : 34 ∈ r
    · have hto : textO r = (innerB r, true) := by unfold textO; rw [if_pos h34]
      have htk : textOk r = isTxtB (innerB r) := by
        rw [isTxt_inner]; unfold textOk; rw [decide_eq_true h34]; rfl
      have HXz : Hid (X = bs (innerB r) ∧ X.size = (innerB r).length) := by
        have h := HXs.out
        rw [hto] at h
        exact ⟨h, by rw [h, bs_size]⟩
      rw [hto] at HT HI
      cases hok : isTxtB (innerB r) with
      | true =>
        have HE : Hid (firstA S = (5, 0, innerB r, X.size + 2, 0)) := by
          show _ = _
          rw [HF.out]; unfold textA; rw [if_pos (by rw [htk, hok]), HXz.out.2]
        rw [hok] at HI
        clear hto htk hok h34 HF hXd HXs
        go_enter Try.func42, Try.ntmps42
        go_wp2_with fail
        refine (HR.out _).mono ?_
        rintro e w1 ⟨rfl, hw1⟩
        have hnx : NxAt w p w1 := by rw [hw1]; exact nxAt_start w p
        clear hw1 HR
        obtain ⟨z0, z1, z2, z3, zf⟩ := block4 hnx.ans
        obtain ⟨y0, y1, y2, y3, yf⟩ := block4 hnx.tok
        have HL : Hid (NxAt w p w1) := hnx
        clear hnx
        go_wp2_with (first
          | (go_at_call 72; refine (HT.out _).mono ?_; rintro e w' ⟨rfl, rfl⟩)
          | (go_at_call 73; refine (HI.out _).mono ?_; rintro e w' ⟨rfl, rfl⟩))
        refine bodyPost_ret (v := .tuple #[.agg #[.int .i64 5, .int .i64 0, .string X, .int .i64 (p : Int)], .int .i64 ((p : Int) + (X.size : Int) + 2), .int .i64 0]) ?_ rfl (next_okx HE.out HXz.out.1 (by omega) ?_)
        · simp only [results, hres]
          go_simp
        · exact below4 ((HL.out.low.setCell (Nat.le_succ _) _).setCell (Nat.le_succ _) _) (Nat.le_refl _) _ _ _ _
      | false =>
        have HE : Hid (firstA S = (0, 0, [], 0, 63)) := by
          show _ = _
          rw [HF.out, textA_no (by rw [htk, hok])]
        rw [hok] at HI
        clear hto htk hok h34 HF hXd HXs HXz
        go_enter Try.func42, Try.ntmps42
        go_wp2_with fail
        refine (HR.out _).mono ?_
        rintro e w1 ⟨rfl, hw1⟩
        have hnx : NxAt w p w1 := by rw [hw1]; exact nxAt_start w p
        clear hw1 HR
        obtain ⟨z0, z1, z2, z3, zf⟩ := block4 hnx.ans
        obtain ⟨y0, y1, y2, y3, yf⟩ := block4 hnx.tok
        have HL : Hid (NxAt w p w1) := hnx
        clear hnx
        go_wp2_with (first
          | (go_at_call 72; refine (HT.out _).mono ?_; rintro e w' ⟨rfl, rfl⟩)
          | (go_at_call 73; refine (HI.out _).mono ?_; rintro e w' ⟨rfl, rfl⟩))
        refine bodyPost_ret (v := .tuple #[.agg #[.int .i64 0, .int .i64 0, .string ⟨#[]⟩, .int .i64 (p : Int)], .int .i64 0, .int .i64 63]) ?_ rfl (next_wrong HE.out (by decide) ?_)
        · simp only [results, hres]
          go_simp
        · exact below4 HL.out.low (Nat.le_refl _) _ _ _ _
    · have hto : textO r = ([], false) := by unfold textO; rw [if_neg h34]
      have HE : Hid (firstA S = (0, 0, [], 0, 63)) := by
        show _ = _
        rw [HF.out, textA_no (by unfold textOk; rw [decide_eq_false h34]; rfl)]
      rw [hto] at HT HI
      clear hto h34 HF hXd HXs
      go_enter Try.func42, Try.ntmps42
      go_wp2_with fail
      refine (HR.out _).mono ?_
      rintro e w1 ⟨rfl, hw1⟩
      have hnx : NxAt w p w1 := by rw [hw1]; exact nxAt_start w p
      clear hw1 HR
      obtain ⟨z0, z1, z2, z3, zf⟩ := block4 hnx.ans
      obtain ⟨y0, y1, y2, y3, yf⟩ := block4 hnx.tok
      have HL : Hid (NxAt w p w1) := hnx
      clear hnx
      generalize isTxtB (([] : List UInt8), false).1 = tb at *
      go_wp2_with (first
        | (go_at_call 72; refine (HT.out _).mono ?_; rintro e w' ⟨rfl, rfl⟩)
        | (go_at_call 73; refine (HI.out _).mono ?_; rintro e w' ⟨rfl, rfl⟩))
      refine bodyPost_ret (v := .tuple #[.agg #[.int .i64 0, .int .i64 0, .string ⟨#[]⟩, .int .i64 (p : Int)], .int .i64 0, .int .i64 63]) ?_ rfl (next_wrong HE.out (by decide) ?_)
      · simp only [results, hres]
        go_simp
      · exact below4 HL.out.low (Nat.le_refl _) _ _ _ _
  · have hb : ((s[p].toNat : Int) == 34) = false := by
      rw [beq_eq_false_iff_ne]; intro e
      exact hq ((eqN _ 34 (by decide)).2 (by omega))
    have HF : Hid (firstA (s.data.toList.drop p) = if signB (s.data.toList.drop p) = [] then (0, 0, [], 0, 60) else signA (signB (s.data.toList.drop p))) := by
      show _ = _
      rw [hD]; exact first_sign hpt hq
    have hXl : (signB (s.data.toList.drop p)).length ≤ 2 := by
      rw [hD]; unfold signB
      repeat' split
      all_goals simp
    clear hD hq hpt HT
    generalize hdS : s.data.toList.drop p = S at *
    clear hdS
    obtain ⟨X, hX⟩ : ∃ X : ByteArray, X = bs (signB S) := ⟨_, rfl⟩
    have HXs : Hid (X = bs (signB S) ∧ X.size = (signB S).length) := ⟨hX, by rw [hX, bs_size]⟩
    have hX2 : X.size ≤ 2 := by rw [hX, bs_size]; exact hXl
    have hXt : X.toList = signB S := by rw [hX, bs_toList]
    rw [← hX] at HG
    go_enter Try.func42, Try.ntmps42
    go_wp2_with fail
    refine (HR.out _).mono ?_
    rintro e w1 ⟨rfl, hw1⟩
    have hnx : NxAt w p w1 := by rw [hw1]; exact nxAt_start w p
    clear hw1 HR
    obtain ⟨y0, y1, y2, y3, yf⟩ := block4 hnx.tok
    go_wp2_with fail
    refine (HG.out _).mono ?_
    rintro e w2 ⟨n, rfl, hw2⟩
    have hh : w2.heap = (w1.setCell ⟨w.heap.size + 1, 0, none⟩ (.int .i64 6)).heap := by rw [hw2, drewN_heap]
    have hlow : Below w.heap.size w w2 := by rw [hw2]; exact below_drewN (hnx.low.setCell (Nat.le_succ _) _) n
    have hans : w2.heap[w.heap.size]? = some (.cells zero4 48 (0, 0)) := by rw [hh]; exact keepS hnx.ans (by omega) _
    have htok : w2.heap[w.heap.size + 1]? = some (.cells #[.int .i64 6, .int .i64 0, .string ⟨#[]⟩, .int .i64 (p : Int)] 48 (0, 0)) := by
      rw [hh]
      have h := heap_setCell_same w1 (w.heap.size + 1) 0 _ 48 (.int .i64 6) hnx.tok
      simpa using h
    have HL : Hid (Below w.heap.size w w2) := hlow
    clear hw2 hh hlow hnx HG y0 y1 y2 y3 yf hX hXl
    obtain ⟨z0, z1, z2, z3, zf⟩ := block4 hans
    obtain ⟨y0, y1, y2, y3, yf⟩ := block4 htok
    clear hans htok
    by_cases hS : signB S = []
    · have HE : Hid (firstA S = (0, 0, [], 0, 60)) := by
        show _ = _
        rw [HF.out, if_pos hS]
      have hXe : (X.toList == []) = true := by rw [hXt, hS]; rfl
      clear hS HF hXt HXs
      go_wp2
      refine bodyPost_ret (v := .tuple #[.agg #[.int .i64 6, .int .i64 0, .string X, .int .i64 (p : Int)], .int .i64 0, .int .i64 60]) ?_ rfl (next_wrong HE.out (by decide) ?_)
      · simp only [results, hres]
        go_simp
      · exact below4 (HL.out.setCell (Nat.le_succ _) _) (Nat.le_refl _) _ _ _ _
    · have HE : Hid (firstA S = (6, 0, signB S, X.size, 0)) := by
        show _ = _
        rw [HF.out, if_neg hS, signA, HXs.out.2]
      have hXe : (X.toList == []) = false := by
        rw [hXt, beq_eq_false_iff_ne]; exact hS
      clear hS HF hXt
      go_wp2
      go_region
      all_goals go_wp2
      all_goals refine bodyPost_ret (v := .tuple #[.agg #[.int .i64 6, .int .i64 0, .string X, .int .i64 (p : Int)], .int .i64 ((p : Int) + (X.size : Int)), .int .i64 0]) ?_ rfl (next_okx HE.out HXs.out.1 rfl ?_)
      · simp only [results, hres]
        go_simp
      · exact below_drewN (below4 (HL.out.setCell (Nat.le_succ _) _) (Nat.le_refl _) _ _ _ _) 1
theorem next_calls (s : ByteArray) (p : Nat) (w : World) (hs : s.size ≤ 4000) (hp : p < s.size) :
    Calls Try.prog 42 #[.string s, .int .i64 (p : Int)] w fun e w' => NextPost (s.data.toList.drop p) p w e w' := by
  cases h : isPart s[p] with
  | true => exact next_run s p w hs hp h
  | false => exact next_other s p w hs hp h
end Go.Proofs.Ytnnmhmlebffacaa
