/-
  Depth.
-/
import Derived.Test.YtnnmhmlebffacaaSrc
namespace Go.Proofs.Ytnnmhmlebffacaa
open Go.RowKit Go.Deep

/-- The depth of the deepest of a list, in the machine's numbers. -/
def depW : Fo → Int
  | .nil => 0
  | .node _ _ _ k r => max (wrap64 (depW k + 1)) (depW r)
theorem wrap_small {x : Int} (h1 : -9223372036854775808 ≤ x) (h2 : x ≤ 9223372036854775807) : wrap64 x = x := by
  unfold wrap64; omega
theorem depW_eq : ∀ (F : Fo), depF F ≤ 1000000 → depW F = (depF F : Int)
  | .nil, _ => rfl
  | .node _ _ _ k r, h => by
    simp only [depF] at h
    have h1 := depW_eq k (by omega)
    have h2 := depW_eq r (by omega)
    simp only [depW, depF]
    rw [h1, h2, wrap_small (by omega) (by omega)]
    omega
theorem depW_pos : ∀ (F : Fo), 0 ≤ depW F
  | .nil => Int.le_refl _
  | .node _ _ _ k r => by
    have := depW_pos r
    simp only [depW]
    omega
theorem foAt_addr {o : Bool} {S : Nat → Prop} {w : World} {F : Fo} {ka : Option Addr} {kn : Nat} (h : FoAt o S w F ka kn) : ∃ g off, (0 < kn → ka = some ⟨g, off, none⟩) ∧ FoAt o S w F (some ⟨g, off + 0 * 5, none⟩) (kn - 0) := by
  cases F with
  | nil =>
    have h0 : kn = 0 := h
    exact ⟨0, 0, fun h1 => by omega, h0⟩
  | node _ _ hd k r =>
    have hh := h
    obtain ⟨g, off, _, _, _, _, _, ha, _⟩ := hh
    exact ⟨g, off, fun _ => ha, by rw [Nat.zero_mul, Nat.add_zero, ← ha]; exact h⟩
/-- The first of a list in memory, and the others. -/
theorem foAt_head {o : Bool} {S : Nat → Prop} {w : World} {G : Fo} {g off i kn : Nat} (h : FoAt o S w G (some ⟨g, off + i * 5, none⟩) (kn - i)) (hi : i < kn) :
    ∃ b0 o0 hd k r ka kc kk, G = .node b0 o0 hd k r ∧ S g ∧ HdOk hd ∧ kc ≤ maxLen ∧ (w.cell? ⟨g, off + i * 5, none⟩ = some (.int .i64 hd.kind) ∧ w.cell? ⟨g, off + i * 5 + 1, none⟩ = some (.int .i64 hd.num) ∧ w.cell? ⟨g, off + i * 5 + 2, none⟩ = some (.string (bs hd.text)) ∧ w.cell? ⟨g, off + i * 5 + 3, none⟩ = some (.slice ka kc kk) ∧ w.cell? ⟨g, off + i * 5 + 4, none⟩ = some (.int .i64 hd.pl)) ∧
      FoAt o S w k ka kc ∧ FoAt o S w r (some ⟨g, off + (i + 1) * 5, none⟩) (kn - (i + 1)) := by
  cases G with
  | nil => have : kn - i = 0 := h; omega
  | node b0 o0 hd k r =>
    obtain ⟨g', off', ka, kc, kk, m, hn, ha, hS, _, hok, hkc, hc, hk, hr⟩ := h
    cases ha
    refine ⟨b0, o0, hd, k, r, ka, kc, kk, rfl, hS, hok, hkc, ⟨hc 0 _ rfl, hc 1 _ rfl, hc 2 _ rfl, hc 3 _ rfl, hc 4 _ rfl⟩, hk, ?_⟩
    rw [show off + (i + 1) * 5 = off + i * 5 + 5 by omega, show kn - (i + 1) = m by omega]
    exact hr
set_option maxRecDepth 20000 in
set_option maxHeartbeats 2000000 in
theorem depth_calls : ∀ (N : Nat) (e : Ex) (ka : Option Addr) (kn kc : Nat) (w : World) (o : Bool) (S : Nat → Prop), ExAt o S w e ka kn → szF e.2 < N →
    Calls Try.prog 17 #[.agg #[.int .i64 e.1.kind, .int .i64 e.1.num, .string (bs e.1.text), .slice ka kn kc, .int .i64 e.1.pl]] w fun e' w' => e' = .returned (.int .i64 (wrap64 (depW e.2 + 1))) ∧ Below w.heap.size w w'
  | 0, _, _, _, _, _, _, _, _, h => by omega
  | N + 1, e, ka, kn, kc, w, o, S, hE, hN => by
    have IH : Hid (∀ (e : Ex) (ka : Option Addr) (kn kc : Nat) (w : World), ExAt o S w e ka kn → szF e.2 < N →
      Calls Try.prog 17 #[.agg #[.int .i64 e.1.kind, .int .i64 e.1.num, .string (bs e.1.text), .slice ka kn kc, .int .i64 e.1.pl]] w fun e' w' => e' = .returned (.int .i64 (wrap64 (depW e.2 + 1))) ∧ Below w.heap.size w w') := fun e ka kn kc w h1 h2 => depth_calls N e ka kn kc w o S h1 h2
    obtain ⟨g, off, hka, hF⟩ := foAt_addr hE.kids
    have hkm := hE.few
    unfold maxLen at hkm
    have HF : Hid (FoAt o S w e.2 (some ⟨g, off + 0 * 5, none⟩) (kn - 0) ∧ szF e.2 ≤ N) := ⟨hF, by omega⟩
    generalize hD : depW e.2 = D at *
    have HD : Hid (depW e.2 = D) := hD
    generalize e.2 = F at *
    generalize e.1 = hd at *
    clear hF hE hN hD
    have hbx : Below w.heap.size w (w.alloc (.cells #[.int .i64 hd.kind, .int .i64 hd.num, .string (bs hd.text), .slice ka kn kc, .int .i64 hd.pl] 35)) := (Below.refl _ _).alloc (Nat.le_refl _) _
    have HB : Hid (Below w.heap.size w (w.alloc (.cells #[.int .i64 hd.kind, .int .i64 hd.num, .string (bs hd.text), .slice ka kn kc, .int .i64 hd.pl] 35))) := hbx
    have HF2 : Hid (FoAt o S (w.alloc (.cells #[.int .i64 hd.kind, .int .i64 hd.num, .string (bs hd.text), .slice ka kn kc, .int .i64 hd.pl] 35)) F (some ⟨g, off + 0 * 5, none⟩) (kn - 0) ∧ szF F ≤ N) := ⟨HF.out.1.below hbx, HF.out.2⟩
    clear hbx HF
    go_enter Try.func17, Try.ntmps17
    go_wp2_with fail
    go_loopg [3, 9] kn (fun k dv iv wr => ∃ (G : Fo) (i : Nat) (d : Int), 0 ≤ d ∧ dv = .int .i64 d ∧ iv = .int .i64 (i : Int) ∧ i + k = kn ∧ Hid (FoAt o S wr G (some ⟨g, off + i * 5, none⟩) (kn - i) ∧ szF G ≤ N ∧ max d (depW G) = D ∧ Below w.heap.size w wr))
    case atStart => exact ⟨F, 0, 0, Int.le_refl _, rfl, rfl, by omega, HF2.out.1, HF2.out.2, by rw [← HD.out]; have := depW_pos F; omega, HB.out⟩
    case round =>
      clear HF2 HB HD
      obtain ⟨G, i, d, hd0, rfl, rfl, hik, HT⟩ := hrel
      by_cases hi : i < kn
      · obtain ⟨b0, o0, h2, k2, r2, ka2, kc2, kk2, rfl, -, hok, hkc, ⟨c0, c1, c2, c3, c4⟩, hk2, hr2⟩ := foAt_head HT.out.1 hi
        have hka2 := hka (by omega)
        subst hka2
        have HE2 : Hid (∀ o', ExAt o S (wr.alloc o') (h2, k2) ka2 kc2) := fun o' => ⟨hok, hkc, hk2.below ((Below.refl _ _).alloc (Nat.le_refl _) _)⟩
        have HR : Hid (FoAt o S wr r2 (some ⟨g, off + (i + 1) * 5, none⟩) (kn - (i + 1)) ∧ szF k2 < N ∧ szF r2 ≤ N ∧ max d (max (wrap64 (depW k2 + 1)) (depW r2)) = D ∧ Below w.heap.size w wr) := by
          obtain ⟨_, h3, h4, h5⟩ := HT.out
          simp only [szF] at h3
          exact ⟨hr2, by omega, by omega, h4, h5⟩
        clear HT hk2 hr2 hok hkc
        go_wp2_with fail
        refine (IH.out (h2, k2) ka2 kc2 kk2 _ (HE2.out _) HR.out.2.1).mono ?_
        rintro e' w3 ⟨rfl, hb3⟩
        have HR3 : Hid (FoAt o S w3 r2 (some ⟨g, off + (i + 1) * 5, none⟩) (kn - (i + 1)) ∧ szF r2 ≤ N ∧ max (max d (wrap64 (depW k2 + 1))) (depW r2) = D ∧ Below w.heap.size w w3) := by
          have hb4 := below_box' hb3
          refine ⟨HR.out.1.below hb4, HR.out.2.2.1, ?_, HR.out.2.2.2.2.trans (hb4.mono HR.out.2.2.2.2.size)⟩
          have := HR.out.2.2.2.1
          omega
        clear hb3 HR HE2
        generalize wrap64 (depW k2 + 1) = dk at *
        go_wp2_with fail
        · go_roundg (gk - 1)
          case measure => omega
          case rel =>
            have h9 := HR3.out
            rw [show max d dk = dk by omega] at h9
            exact ⟨r2, i + 1, dk, by omega, rfl, by go_num, by omega, h9⟩
        · go_roundg (gk - 1)
          case measure => omega
          case rel =>
            have h9 := HR3.out
            rw [show max d dk = d by omega] at h9
            exact ⟨r2, i + 1, d, hd0, rfl, by go_num, by omega, h9⟩
      · have HX : Hid (d = D ∧ Below w.heap.size w wr) := by
          obtain ⟨h1, _, h3, h4⟩ := HT.out
          have : kn - i = 0 := by omega
          rw [this] at h1
          cases G with
          | nil => simp only [depW] at h3; exact ⟨by omega, h4⟩
          | node b0 o0 h2 k r => obtain ⟨_, _, _, _, _, m, hm, _⟩ := h1; omega
        clear HT
        go_wp2
        go_ret
        refine ⟨ret_int ?_, HX.out.2⟩
        rw [HX.out.1]
end Go.Proofs.Ytnnmhmlebffacaa
