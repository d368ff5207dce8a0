/-
  Same: of lists of expressions, of trees. Two texts one behind the other; a piece of a text. Right: heads of expressions, lists of them.
-/
import Derived.Test.YtpeldiibjhffiaaDoorG14
import Derived.Test.YtpeldiibjhffiaaDoorG12
namespace Go.Proofs.YtpeldiibjhffiaaDoor
open Go.RowKit Go.Deep

def sameH (a b : Hd) : Bool := decide (a.kind = b.kind) && (decide (a.num = b.num) && decide (a.text = b.text))
def sameF : Fo → Fo → Bool
  | .nil, .nil => true
  | .node _ _ h k r, .node _ _ h' k' r' => sameH h h' && (sameF k k' && sameF r r')
  | _, _ => false
def sameI : List It → List It → Bool
  | [], [] => true
  | i :: r, j :: s => (decide (i.kind = j.kind) && (decide (i.name = j.name) && sameF i.args j.args)) && sameI r s
  | _, _ => false
theorem sameF_len : ∀ (F G : Fo), lenF F ≠ lenF G → sameF F G = false
  | .nil, .nil, h => absurd rfl h
  | .nil, .node _ _ _ _ _, _ => rfl
  | .node _ _ _ _ _, .nil, _ => rfl
  | .node _ _ _ _ r, .node _ _ _ _ s, h => by
    have : sameF r s = false := sameF_len r s (by simp [lenF] at h; exact h)
    simp [sameF, this]
theorem sameI_len : ∀ (L M : List It), L.length ≠ M.length → sameI L M = false
  | [], [], h => absurd rfl h
  | [], _ :: _, _ => rfl
  | _ :: _, [], _ => rfl
  | _ :: r, _ :: s, h => by
    have : sameI r s = false := sameI_len r s (by simpa using h)
    simp [sameI, this]
theorem sameF_refl : ∀ (F : Fo), sameF F F = true
  | .nil => rfl
  | .node _ _ h k r => by simp [sameF, sameH, sameF_refl k, sameF_refl r]
theorem sameI_refl : ∀ (L : List It), sameI L L = true
  | [] => rfl
  | i :: r => by simp [sameI, sameF_refl, sameI_refl r]
set_option maxRecDepth 20000 in
set_option maxHeartbeats 4000000 in
theorem sameAll_calls : ∀ (N : Nat) (F G : Fo) (ao bo : Option Addr) (n c m d : Nat) (w : World) (o o' : Bool) (S S' : Nat → Prop), FoAt o S w F ao n → FoAt o' S' w G bo m → n ≤ maxLen → m ≤ maxLen → szF F < N →
    Calls Tryd.prog 27 #[.slice ao n c, .slice bo m d] w fun e' w' => e' = .returned (.bool (sameF F G)) ∧ Below w.heap.size w w'
  | 0, _, _, _, _, _, _, _, _, _, _, _, _, _, _, _, _, _, h => by omega
  | N + 1, F, G, ao, bo, n, c, m, d, w, o, o', S, S', hF, hG, hn, hm, hN => by
    have IH : Hid (∀ (F G : Fo) (ao bo : Option Addr) (n c m d : Nat) (w : World), FoAt o S w F ao n → FoAt o' S' w G bo m → n ≤ maxLen → m ≤ maxLen → szF F < N →
      Calls Tryd.prog 27 #[.slice ao n c, .slice bo m d] w fun e' w' => e' = .returned (.bool (sameF F G)) ∧ Below w.heap.size w w') := fun F G ao bo n c m d w h1 h2 h3 h4 h5 => sameAll_calls N F G ao bo n c m d w o o' S S' h1 h2 h3 h4 h5
    have hm2 := hm
    have hn2 := hn
    unfold maxLen at hm2 hn2
    by_cases hnm : n = m
    · subst hnm
      have q0 : ((n : Int) != (n : Int)) = false := by simp
      obtain ⟨g, off, hka, hF'⟩ := foAt_addr hF
      obtain ⟨g', off', hkb, hG'⟩ := foAt_addr hG
      generalize hD : sameF F G = D at *
      have H0 : Hid (FoAt o S w F (some ⟨g, off + 0 * 5, none⟩) (n - 0) ∧ FoAt o' S' w G (some ⟨g', off' + 0 * 5, none⟩) (n - 0) ∧ szF F ≤ N ∧ sameF F G = D) := ⟨hF', hG', by omega, hD⟩
      clear hF hG hF' hG' hD hN
      go_enter Tryd.func27, Tryd.ntmps27
      go_wp2_with fail
      go_loopg [15] n (fun k iv wr => ∃ (F' G' : Fo) (i : Nat), iv = .int .i64 (i : Int) ∧ i + k = n ∧ Hid (FoAt o S wr F' (some ⟨g, off + i * 5, none⟩) (n - i) ∧ FoAt o' S' wr G' (some ⟨g', off' + i * 5, none⟩) (n - i) ∧ szF F' ≤ N ∧ sameF F' G' = D ∧ Below w.heap.size w wr))
      case atStart => exact ⟨F, G, 0, rfl, by omega, H0.out.1, H0.out.2.1, H0.out.2.2.1, H0.out.2.2.2, Below.refl _ _⟩
      case round =>
        clear H0
        obtain ⟨F', G', i, rfl, hik, HT⟩ := hrel
        by_cases hi : i < n
        · obtain ⟨b1, o1, h1, k1, r1, ka1, kc1, kk1, rfl, -, hok1, hkc1, ⟨c0, c1, c2, c3, c4⟩, hk1, hr1⟩ := foAt_head HT.out.1 hi
          obtain ⟨b2, o2, h2, k2, r2, ka2, kc2, kk2, rfl, -, hok2, hkc2, ⟨d0, d1, d2, d3, d4⟩, hk2, hr2⟩ := foAt_head HT.out.2.1 hi
          have hka2 := hka (by omega)
          have hkb2 := hkb (by omega)
          subst hka2
          subst hkb2
          have HBB : Hid (∀ o o', Below wr.heap.size wr ((wr.alloc o).alloc o')) := fun o o' => ((Below.refl _ _).alloc (Nat.le_refl _) o).alloc (by simp) o'
          have d0' := fun o => keepc ((Below.refl wr.heap.size wr).alloc (Nat.le_refl _) o) d0
          have d1' := fun o => keepc ((Below.refl wr.heap.size wr).alloc (Nat.le_refl _) o) d1
          have d2' := fun o => keepc ((Below.refl wr.heap.size wr).alloc (Nat.le_refl _) o) d2
          have d3' := fun o => keepc ((Below.refl wr.heap.size wr).alloc (Nat.le_refl _) o) d3
          have d4' := fun o => keepc ((Below.refl wr.heap.size wr).alloc (Nat.le_refl _) o) d4
          have HR : Hid (FoAt o S wr r1 (some ⟨g, off + (i + 1) * 5, none⟩) (n - (i + 1)) ∧ FoAt o' S' wr r2 (some ⟨g', off' + (i + 1) * 5, none⟩) (n - (i + 1)) ∧ szF k1 < N ∧ szF r1 ≤ N ∧ (sameH h1 h2 && (sameF k1 k2 && sameF r1 r2)) = D ∧ Below w.heap.size w wr) := by
            obtain ⟨_, _, h3, h4, h5⟩ := HT.out
            simp only [szF] at h3
            exact ⟨hr1, hr2, by omega, by omega, h4, h5⟩
          have HKd : Hid (∀ W, Below wr.heap.size wr W → Calls Tryd.prog 27 #[.slice ka1 kc1 kk1, .slice ka2 kc2 kk2] W fun e' w' => e' = .returned (.bool (sameF k1 k2)) ∧ Below W.heap.size W w') := fun W hW => IH.out k1 k2 ka1 ka2 kc1 kk1 kc2 kk2 W (hk1.below hW) (hk2.below hW) hkc1 hkc2 HR.out.2.2.1
          have HBw : Hid (∀ o o', Below w.heap.size w ((wr.alloc o).alloc o')) := fun o o' => HR.out.2.2.2.2.2.trans ((HBB.out o o').mono HR.out.2.2.2.2.2.size)
          clear HT hk1 hk2 hr1 hr2 hok1 hok2 hkc1 hkc2 IH d0 d1 d2 d3 d4
          by_cases e1 : h1.kind = h2.kind
          · have q1 : (h1.kind != h2.kind) = false := by simp [e1]
            by_cases e2 : h1.num = h2.num
            · have q2 : (h1.num != h2.num) = false := by simp [e2]
              by_cases e3 : h1.text = h2.text
              · have q3 : ((bs h1.text).toList == (bs h2.text).toList) = true := by rw [e3]; simp
                have HS : Hid (sameH h1 h2 = true) := by show sameH h1 h2 = true; simp [sameH, e1, e2, e3]
                clear e1 e2 e3
                cases hk : sameF k1 k2 with
                | true =>
                  rw [hk] at HKd HR
                  go_wp2_with fail
                  refine (HKd.out _ (HBB.out _ _)).mono ?_
                  rintro e' w3 ⟨rfl, hb3⟩
                  have HX : Hid (FoAt o S w3 r1 (some ⟨g, off + (i + 1) * 5, none⟩) (n - (i + 1)) ∧ FoAt o' S' w3 r2 (some ⟨g', off' + (i + 1) * 5, none⟩) (n - (i + 1)) ∧ szF r1 ≤ N ∧ sameF r1 r2 = D ∧ Below w.heap.size w w3) := by
                    obtain ⟨a1, a2, _, a4, a5, a6⟩ := HR.out
                    have hb4 := (HBB.out _ _).trans (hb3.mono (HBB.out _ _).size)
                    rw [HS.out] at a5
                    exact ⟨a1.below hb4, a2.below hb4, a4, by simpa using a5, a6.trans (hb4.mono a6.size)⟩
                  clear hb3 HR HKd HBB HBw
                  go_wp2_with fail
                  go_roundg (gk - 1)
                  case measure => omega
                  case rel => exact ⟨r1, r2, i + 1, by go_num, by omega, HX.out⟩
                | false =>
                  rw [hk] at HKd HR
                  go_wp2_with fail
                  refine (HKd.out _ (HBB.out _ _)).mono ?_
                  rintro e' w3 ⟨rfl, hb3⟩
                  have HX : Hid (D = false ∧ Below w.heap.size w w3) := ⟨by rw [← HR.out.2.2.2.2.1]; simp, (HBw.out _ _).trans (hb3.mono (HBw.out _ _).size)⟩
                  clear hb3 HR HKd HBB HBw
                  go_wp2
                  go_ret
                  exact ⟨ret_bool HX.out.1.symm, HX.out.2⟩
              · have q3 : ((bs h1.text).toList == (bs h2.text).toList) = false := by rw [bs_toList, bs_toList, beq_eq_false_iff_ne]; exact e3
                have HX : Hid (D = false) := by show D = false; rw [← HR.out.2.2.2.2.1]; simp [sameH, e3]
                clear e1 e2 e3 HR HKd HBB
                go_wp2
                go_ret
                exact ⟨ret_bool HX.out.symm, HBw.out _ _⟩
            · have q2 : (h1.num != h2.num) = true := by simpa using e2
              have HX : Hid (D = false) := by show D = false; rw [← HR.out.2.2.2.2.1]; simp [sameH, e2]
              clear e1 e2 HR HKd HBB
              go_wp2
              go_ret
              exact ⟨ret_bool HX.out.symm, HBw.out _ _⟩
          · have q1 : (h1.kind != h2.kind) = true := by simpa using e1
            have HX : Hid (D = false) := by show D = false; rw [← HR.out.2.2.2.2.1]; simp [sameH, e1]
            clear e1 HR HKd HBB
            go_wp2
            go_ret
            exact ⟨ret_bool HX.out.symm, HBw.out _ _⟩
        · have HX : Hid (D = true ∧ Below w.heap.size w wr) := by
            obtain ⟨a1, a2, _, a4, a5⟩ := HT.out
            rw [show n - i = 0 by omega] at a1 a2
            rw [foAt_end a1, foAt_end a2] at a4
            exact ⟨a4.symm, a5⟩
          clear HT
          go_wp2
          go_ret
          exact ⟨ret_bool HX.out.1.symm, HX.out.2⟩
    · have q0 : ((n : Int) != (m : Int)) = true := by simp; omega
      have HX : Hid (sameF F G = false) := sameF_len F G (by rw [← foAt_len hF, ← foAt_len hG]; exact hnm)
      clear hF hG hN hnm IH
      go_enter Tryd.func27, Tryd.ntmps27
      go_wp2
      go_ret
      exact ⟨ret_bool HX.out.symm, Below.refl _ _⟩
set_option maxRecDepth 20000 in
set_option maxHeartbeats 4000000 in
theorem same_calls (L M : List It) (ao bo : Option Addr) (n c m d : Nat) (w : World) (o o' : Bool) (S S' : Nat → Prop) (hF : ItsAt o S w L ao n) (hG : ItsAt o' S' w M bo m) (hn : n ≤ maxLen) (hm : m ≤ maxLen) :
    Calls Tryd.prog 13 #[.agg #[.slice ao n c], .agg #[.slice bo m d]] w fun e' w' => e' = .returned (.bool (sameI L M)) ∧ Below w.heap.size w w' := by
  have hm2 := hm
  have hn2 := hn
  unfold maxLen at hm2 hn2
  have hbx : Below w.heap.size w ((w.alloc (.cells #[.slice ao n c] 24)).alloc (.cells #[.slice bo m d] 24)) := ((Below.refl _ _).alloc (Nat.le_refl _) _).alloc (by simp) _
  have ha0 : ((w.alloc (.cells #[.slice ao n c] 24)).alloc (.cells #[.slice bo m d] 24)).heap[w.heap.size]? = some (.cells #[.slice ao n c] 24 (0, 0)) := heap_old (heap_alloc_new w _)
  have hb0 : ((w.alloc (.cells #[.slice ao n c] 24)).alloc (.cells #[.slice bo m d] 24)).heap[w.heap.size + 1]? = some (.cells #[.slice bo m d] 24 (0, 0)) := by
    have := heap_alloc_new (w.alloc (.cells #[.slice ao n c] 24)) (.cells #[.slice bo m d] 24)
    rwa [show (w.alloc (.cells #[.slice ao n c] 24)).heap.size = w.heap.size + 1 by simp] at this
  by_cases hnm : n = m
  · subst hnm
    have q0 : ((n : Int) != (n : Int)) = false := by simp
    obtain ⟨g, off, hka, hF'⟩ := itsAt_addr hF
    obtain ⟨g', off', hkb, hG'⟩ := itsAt_addr hG
    generalize hD : sameI L M = D at *
    have H0 : Hid (ItsAt o S ((w.alloc (.cells #[.slice ao n c] 24)).alloc (.cells #[.slice bo n d] 24)) L (some ⟨g, off + 0 * 4, none⟩) (n - 0) ∧ ItsAt o' S' ((w.alloc (.cells #[.slice ao n c] 24)).alloc (.cells #[.slice bo n d] 24)) M (some ⟨g', off' + 0 * 4, none⟩) (n - 0) ∧ sameI L M = D ∧ Below w.heap.size w ((w.alloc (.cells #[.slice ao n c] 24)).alloc (.cells #[.slice bo n d] 24)) ∧ ((w.alloc (.cells #[.slice ao n c] 24)).alloc (.cells #[.slice bo n d] 24)).heap[w.heap.size + 1]? = some (.cells #[.slice bo n d] 24 (0, 0))) := ⟨hF'.below hbx, hG'.below hbx, hD, hbx, hb0⟩
    clear hF hG hF' hG' hD ha0 hb0 hbx
    go_enter Tryd.func13, Tryd.ntmps13
    go_wp2_with fail
    go_loopg [18] n (fun k iv wr => ∃ (F' G' : List It) (i : Nat), iv = .int .i64 (i : Int) ∧ i + k = n ∧ Hid (ItsAt o S wr F' (some ⟨g, off + i * 4, none⟩) (n - i) ∧ ItsAt o' S' wr G' (some ⟨g', off' + i * 4, none⟩) (n - i) ∧ sameI F' G' = D ∧ Below w.heap.size w wr ∧ wr.heap[w.heap.size + 1]? = some (.cells #[.slice bo n d] 24 (0, 0))))
    case atStart => exact ⟨L, M, 0, rfl, by omega, H0.out⟩
    case round =>
      clear H0
      obtain ⟨F', G', i, rfl, hik, HT⟩ := hrel
      by_cases hi : i < n
      · obtain ⟨h1, r1, ka1, kc1, kk1, rfl, -, hok1, hkc1, ⟨c0, c1, c2, c3⟩, hk1, hr1⟩ := itsAt_head HT.out.1 hi
        obtain ⟨h2, r2, ka2, kc2, kk2, rfl, -, hok2, hkc2, ⟨d0, d1, d2, d3⟩, hk2, hr2⟩ := itsAt_head HT.out.2.1 hi
        have hka2 := hka (by omega)
        have hkb2 := hkb (by omega)
        subst hka2
        subst hkb2
        have HBB : Hid (∀ o o', Below wr.heap.size wr ((wr.alloc o).alloc o')) := fun o o' => ((Below.refl _ _).alloc (Nat.le_refl _) o).alloc (by simp) o'
        have d0' := fun o => keepc ((Below.refl wr.heap.size wr).alloc (Nat.le_refl _) o) d0
        have d1' := fun o => keepc ((Below.refl wr.heap.size wr).alloc (Nat.le_refl _) o) d1
        have d2' := fun o => keepc ((Below.refl wr.heap.size wr).alloc (Nat.le_refl _) o) d2
        have d3' := fun o => keepc ((Below.refl wr.heap.size wr).alloc (Nat.le_refl _) o) d3
        have hq' := fun o => keepc ((Below.refl wr.heap.size wr).alloc (Nat.le_refl _) o) (blk (i := 0) HT.out.2.2.2.2 rfl)
        have HR : Hid (ItsAt o S wr r1 (some ⟨g, off + (i + 1) * 4, none⟩) (n - (i + 1)) ∧ ItsAt o' S' wr r2 (some ⟨g', off' + (i + 1) * 4, none⟩) (n - (i + 1)) ∧ ((decide (h1.kind = h2.kind) && (decide (h1.name = h2.name) && sameF h1.args h2.args)) && sameI r1 r2) = D ∧ Below w.heap.size w wr ∧ wr.heap[w.heap.size + 1]? = some (.cells #[.slice (some ⟨g', off', none⟩) n d] 24 (0, 0))) := ⟨hr1, hr2, HT.out.2.2.1, HT.out.2.2.2.1, HT.out.2.2.2.2⟩
        have HKd : Hid (∀ W, Below wr.heap.size wr W → Calls Tryd.prog 27 #[.slice ka1 kc1 kk1, .slice ka2 kc2 kk2] W fun e' w' => e' = .returned (.bool (sameF h1.args h2.args)) ∧ Below W.heap.size W w') := fun W hW => sameAll_calls _ h1.args h2.args ka1 ka2 kc1 kk1 kc2 kk2 W o o' S S' (hk1.below hW) (hk2.below hW) hkc1 hkc2 (Nat.lt_succ_self _)
        have HBw : Hid (∀ o o', Below w.heap.size w ((wr.alloc o).alloc o')) := fun o o' => HR.out.2.2.2.1.trans ((HBB.out o o').mono HR.out.2.2.2.1.size)
        clear HT hk1 hk2 hr1 hr2 hok1 hok2 hkc1 hkc2 d0 d1 d2 d3
        by_cases e1 : h1.kind = h2.kind
        · have q1 : (h1.kind != h2.kind) = false := by simp [e1]
          by_cases e3 : h1.name = h2.name
          · have q3 : ((bs h1.name).toList == (bs h2.name).toList) = true := by rw [e3]; simp
            have HS : Hid (decide (h1.kind = h2.kind) = true ∧ decide (h1.name = h2.name) = true) := ⟨by simp [e1], by simp [e3]⟩
            clear e1 e3
            cases hk : sameF h1.args h2.args with
            | true =>
              rw [hk] at HKd HR
              go_wp2_with fail
              refine (HKd.out _ (HBB.out _ _)).mono ?_
              rintro e' w3 ⟨rfl, hb3⟩
              have HX : Hid (ItsAt o S w3 r1 (some ⟨g, off + (i + 1) * 4, none⟩) (n - (i + 1)) ∧ ItsAt o' S' w3 r2 (some ⟨g', off' + (i + 1) * 4, none⟩) (n - (i + 1)) ∧ sameI r1 r2 = D ∧ Below w.heap.size w w3 ∧ w3.heap[w.heap.size + 1]? = some (.cells #[.slice (some ⟨g', off', none⟩) n d] 24 (0, 0))) := by
                obtain ⟨a1, a2, a5, a6, a7⟩ := HR.out
                have hb4 := (HBB.out _ _).trans (hb3.mono (HBB.out _ _).size)
                rw [HS.out.1, HS.out.2] at a5
                exact ⟨a1.below hb4, a2.below hb4, by simpa using a5, a6.trans (hb4.mono a6.size), by rw [hb4.block _ (lt_block a7)]; exact a7⟩
              clear hb3 HR HKd HBB HBw
              go_wp2_with fail
              go_roundg (gk - 1)
              case measure => omega
              case rel => exact ⟨r1, r2, i + 1, by go_num, by omega, HX.out⟩
            | false =>
              rw [hk] at HKd HR
              go_wp2_with fail
              refine (HKd.out _ (HBB.out _ _)).mono ?_
              rintro e' w3 ⟨rfl, hb3⟩
              have HX : Hid (D = false ∧ Below w.heap.size w w3) := ⟨by rw [← HR.out.2.2.1]; simp, (HBw.out _ _).trans (hb3.mono (HBw.out _ _).size)⟩
              clear hb3 HR HKd HBB HBw
              go_wp2
              go_ret
              exact ⟨ret_bool HX.out.1.symm, HX.out.2⟩
          · have q3 : ((bs h1.name).toList == (bs h2.name).toList) = false := by rw [bs_toList, bs_toList, beq_eq_false_iff_ne]; exact e3
            have HX : Hid (D = false) := by show D = false; rw [← HR.out.2.2.1]; simp [e3]
            clear e1 e3 HR HKd HBB
            go_wp2
            go_ret
            exact ⟨ret_bool HX.out.symm, HBw.out _ _⟩
        · have q1 : (h1.kind != h2.kind) = true := by simpa using e1
          have HX : Hid (D = false) := by show D = false; rw [← HR.out.2.2.1]; simp [e1]
          clear e1 HR HKd HBB
          go_wp2
          go_ret
          exact ⟨ret_bool HX.out.symm, HBw.out _ _⟩
      · have HX : Hid (D = true ∧ Below w.heap.size w wr) := by
          obtain ⟨a1, a2, a4, a5, _⟩ := HT.out
          rw [show n - i = 0 by omega] at a1 a2
          rw [itsAt_end a1, itsAt_end a2] at a4
          exact ⟨a4.symm, a5⟩
        clear HT
        go_wp2
        go_ret
        exact ⟨ret_bool HX.out.1.symm, HX.out.2⟩
  · have q0 : ((n : Int) != (m : Int)) = true := by simp; omega
    have HX : Hid (sameI L M = false ∧ Below w.heap.size w ((w.alloc (.cells #[.slice ao n c] 24)).alloc (.cells #[.slice bo m d] 24))) := ⟨sameI_len L M (by rw [← itsAt_len hF, ← itsAt_len hG]; exact hnm), hbx⟩
    clear hF hG hnm hbx ha0 hb0
    go_enter Tryd.func13, Tryd.ntmps13
    go_wp2
    go_ret
    exact ⟨ret_bool HX.out.1.symm, HX.out.2⟩

end Go.Proofs.YtpeldiibjhffiaaDoor
namespace Go.Proofs.YtpeldiibjhffiaaDoor
open Go.RowKit

/-- Two texts, one behind the other, under one name. -/
theorem cat_var (a b : ByteArray) (h : a.size + b.size ≤ 1000000000) : ∃ c : ByteArray, c.data.toList = a.data.toList ++ b.data.toList ∧ c.size = a.size + b.size ∧ ∀ W, (Op.stringOp .add a b).run Tryd.prog W = .ok (.string c) W :=
  ⟨a ++ b, by rw [ByteArray.data_append, Array.toList_append], ByteArray.size_append, fun W => run_string_add_sum W _ _ (by omega)⟩
theorem slice_run (s : ByteArray) (k q : Nat) (h1 : k ≤ q) (h2 : q ≤ s.size) (w : World) : (Instr.slice 9 (.string s) (some (.int .i64 (k : Int))) (some (.int .i64 (q : Int))) none).run Tryd.prog w = .ok (.string (s.extract k q)) w := by
  go_simp
end Go.Proofs.YtpeldiibjhffiaaDoor
namespace Go.Proofs.YtpeldiibjhffiaaDoor
open Go.RowKit Go.Deep

def headTx (l : List Tk) : List UInt8 := match l with | [] => [] | t :: _ => t.text
/-- What may stand between the marks of a text, by asking for its tokens. -/
def txB (s : List UInt8) : Bool := decide (s.length ≤ 40) && (decide ((scanB (34 :: s ++ [34])).2.2 = 0) && decide (headTx (scanB (34 :: s ++ [34])).1 = s))
set_option maxRecDepth 20000 in
set_option maxHeartbeats 4000000 in
theorem isTextP_calls (s : ByteArray) (w : World) (hs : s.size ≤ maxLen) :
    Calls Tryd.prog 80 #[.string s] w fun e w' => e = .returned (.bool (txB s.data.toList)) ∧ Below w.heap.size w w' := by
  unfold maxLen at hs
  by_cases h40 : 40 < s.size
  · have HX : Hid (txB s.data.toList = false) := by show txB s.data.toList = false; unfold txB; rw [size_toList]; simp; omega
    have q : decide ((40 : Int) < (s.size : Int)) = true := by simp; omega
    go_enter Tryd.func80, Tryd.ntmps80
    go_wp2
    go_ret
    exact ⟨ret_bool HX.out.symm, Below.refl _ _⟩
  · have q : decide ((40 : Int) < (s.size : Int)) = false := by simp; omega
    obtain ⟨c1, d1, n1, e1⟩ := cat_var ⟨#[34]⟩ s (by rw [show (⟨#[34]⟩ : ByteArray).size = 1 from rfl]; omega)
    have n1' : c1.size = 1 + s.size := by rw [n1]; rfl
    obtain ⟨c2, d2, n2, e2⟩ := cat_var c1 ⟨#[34]⟩ (by rw [show (⟨#[34]⟩ : ByteArray).size = 1 from rfl]; omega)
    have hc2 : c2.data.toList = 34 :: s.data.toList ++ [34] := by rw [d2, d1]; rfl
    have HS : Hid (∀ w, Calls Tryd.prog 23 #[.string c2] w fun e w' => ScanPost (scanB (34 :: s.data.toList ++ [34])) w e w') := fun w => by
      have := scan_calls c2 w
      rw [hc2] at this; exact this
    have HX : Hid (txB s.data.toList = (decide ((scanB (34 :: s.data.toList ++ [34])).2.2 = 0) && decide (headTx (scanB (34 :: s.data.toList ++ [34])).1 = s.data.toList))) := by
      show txB _ = _
      unfold txB
      rw [size_toList, show decide (s.size ≤ 40) = true by simp; omega, Bool.true_and]
    have HG : Hid ((scanB (34 :: s.data.toList ++ [34])).2.2 = 0 → (scanB (34 :: s.data.toList ++ [34])).1 ≠ []) := fun h => by
      obtain ⟨_, _, T, hT, _⟩ := scan_good h
      rw [hT]; simp
    have HK : Hid (∀ t ∈ (scanB (34 :: s.data.toList ++ [34])).1, TkOk t) := scan_ok _
    clear d1 d2 n1 n2 hc2
    generalize scanB (34 :: s.data.toList ++ [34]) = A at *
    obtain ⟨l, p0, z⟩ := A
    by_cases hz : z = 0
    · subst hz
      have hne := HG.out rfl
      have q0 : ((0 : Int) == 0) = true := rfl
      cases l with
      | nil => exact absurd rfl hne
      | cons t r =>
        have HX2 : Hid (txB s.data.toList = ((bs t.text).toList == s.toList)) := by
          show txB _ = _
          rw [HX.out, bs_toList, ByteArray.toList_eq, Bool.eq_iff_iff]
          simp [headTx]
          exact decide_eq_true_iff
        clear HX hne HG
        generalize hX : ((bs t.text).toList == s.toList) = b at *
        go_enter Tryd.func80, Tryd.ntmps80
        go_wp2_with fail
        refine (HS.out _).mono ?_
        rintro e w1 ⟨v, rfl, ho, hb1⟩
        obtain ⟨ao, cap, rfl⟩ := owned_shape ho
        have htk := owned_tks ho HK.out
        obtain ⟨g, off, rfl, hc⟩ := htk.cells (by simp)
        obtain ⟨x0, x1, x2, x3⟩ := hc 0 t rfl
        simp only [Nat.zero_mul, Nat.add_zero] at x0 x1 x2 x3
        have HB : Hid (Below w.heap.size w w1) := hb1
        clear ho htk hc hb1 HS HK
        simp only [List.length_cons]
        go_wp2
        go_ret
        exact ⟨ret_bool HX2.out.symm, HB.out⟩
    · have q0 : (z == 0) = false := by rw [beq_eq_false_iff_ne]; exact hz
      have HX2 : Hid (txB s.data.toList = false) := by
        show txB _ = _
        rw [HX.out]; simp [hz]
      clear HX HG hz
      go_enter Tryd.func80, Tryd.ntmps80
      go_wp2_with fail
      refine (HS.out _).mono ?_
      rintro e w1 ⟨v, rfl, ho, hb1⟩
      obtain ⟨ao, cap, rfl⟩ := owned_shape ho
      have HB : Hid (Below w.heap.size w w1) := hb1
      clear ho hb1 HS HK
      simp only
      go_wp2
      go_ret
      exact ⟨ret_bool HX2.out.symm, HB.out⟩
def hdRight (h : Hd) (n : Nat) : Bool :=
  if h.kind = 1 then decide (0 ≤ h.num) && (decide (h.num ≤ 72057594037927936) && (decide (h.text = []) && decide (n = 0)))
  else if h.kind = 2 then decide (h.num = 0) && (nameB h.text && decide (n = 0))
  else if h.kind = 3 then decide (h.num = 0) && (txB h.text && decide (n = 0))
  else if h.kind = 4 then decide (h.num = 0) && (decide (h.text = []) && decide (n = 1))
  else if h.kind = 5 ∨ h.kind = 6 ∨ h.kind = 7 then decide (h.num = 0) && (decide (h.text = []) && decide (n = 2))
  else if h.kind = 8 ∨ h.kind = 9 then decide (h.num = 0) && (decide (h.text = []) && (decide (1 ≤ n) && decide (n ≤ 8)))
  else false
theorem emptyT (l : List UInt8) : ((bs l).toList == []) = decide (l = []) := by
  rw [bs_toList, Bool.eq_iff_iff]; simp
theorem intB (a : Int) (b : Int) : (a == b) = decide (a = b) := rfl
theorem natB (n k : Nat) : ((n : Int) == (k : Int)) = decide (n = k) := by
  rw [Bool.eq_iff_iff]; simp; omega
set_option maxRecDepth 20000 in
set_option maxHeartbeats 4000000 in
theorem head_num (h : Hd) (ka : Option Addr) (n c : Nat) (w : World) (hk : h.kind = 1) :
    Calls Tryd.prog 55 #[.agg #[.int .i64 h.kind, .int .i64 h.num, .string (bs h.text), .slice ka n c, .int .i64 h.pl]] w fun e w' => e = .returned (.bool (decide (0 ≤ h.num) && (decide (h.num ≤ 72057594037927936) && (decide (h.text = []) && decide (n = 0))))) ∧ Below w.heap.size w w' := by
  have k1 : (h.kind == 1) = true := by rw [beq_iff_eq]; omega
  have HB : Hid (Below w.heap.size w (w.alloc (.cells #[.int .i64 h.kind, .int .i64 h.num, .string (bs h.text), .slice ka n c, .int .i64 h.pl] 40))) := (Below.refl _ _).alloc (Nat.le_refl _) _
  clear hk
  by_cases h0 : 0 ≤ h.num
  · have a0 : decide ((0 : Int) ≤ h.num) = true := by simpa using h0
    by_cases h1 : h.num ≤ 72057594037927936
    · have a1 : decide (h.num ≤ 72057594037927936) = true := by simpa using h1
      have b2 : ((bs h.text).toList == []) = decide (h.text = []) := emptyT _
      have b3 : ((n : Int) == 0) = decide (n = 0) := natB n 0
      have HV : Hid ((decide (0 ≤ h.num) && (decide (h.num ≤ 72057594037927936) && (decide (h.text = []) && decide (n = 0)))) = (decide (h.text = []) && decide (n = 0))) := by show _ = _; rw [a0, a1]; rfl
      rw [HV.out]
      generalize decide (h.text = []) = v2 at *
      generalize decide (n = 0) = v3 at *
      clear HV
      cases v2 <;> cases v3 <;> (
        go_enter Tryd.func55, Tryd.ntmps55
        go_wp2
        go_ret
        exact ⟨rfl, HB.out⟩)
    · have a1 : decide (h.num ≤ 72057594037927936) = false := by simpa using h1
      have HV : Hid ((decide (0 ≤ h.num) && (decide (h.num ≤ 72057594037927936) && (decide (h.text = []) && decide (n = 0)))) = false) := by show _ = _; rw [a1]; simp
      rw [HV.out]
      go_enter Tryd.func55, Tryd.ntmps55
      go_wp2
      go_ret
      exact ⟨rfl, HB.out⟩
  · have a0 : decide ((0 : Int) ≤ h.num) = false := by simpa using h0
    have HV : Hid ((decide (0 ≤ h.num) && (decide (h.num ≤ 72057594037927936) && (decide (h.text = []) && decide (n = 0)))) = false) := by show _ = _; rw [a0]; rfl
    rw [HV.out]
    go_enter Tryd.func55, Tryd.ntmps55
    go_wp2
    go_ret
    exact ⟨rfl, HB.out⟩
set_option maxRecDepth 20000 in
set_option maxHeartbeats 4000000 in
theorem head_neg (h : Hd) (ka : Option Addr) (n c : Nat) (w : World) (hk : h.kind = 4) :
    Calls Tryd.prog 55 #[.agg #[.int .i64 h.kind, .int .i64 h.num, .string (bs h.text), .slice ka n c, .int .i64 h.pl]] w fun e w' => e = .returned (.bool (decide (h.num = 0) && (decide (h.text = []) && decide (n = 1)))) ∧ Below w.heap.size w w' := by
  have k1 : (h.kind == 1) = false := by rw [beq_eq_false_iff_ne]; omega
  have k2 : (h.kind == 2) = false := by rw [beq_eq_false_iff_ne]; omega
  have k3 : (h.kind == 3) = false := by rw [beq_eq_false_iff_ne]; omega
  have k4 : (h.kind == 4) = true := by rw [beq_iff_eq]; omega
  have HB : Hid (Below w.heap.size w (w.alloc (.cells #[.int .i64 h.kind, .int .i64 h.num, .string (bs h.text), .slice ka n c, .int .i64 h.pl] 40))) := (Below.refl _ _).alloc (Nat.le_refl _) _
  clear hk
  have b0 : (h.num == 0) = decide (h.num = 0) := rfl
  have b1 : ((bs h.text).toList == []) = decide (h.text = []) := emptyT _
  have b2 : ((n : Int) == 1) = decide (n = 1) := natB n 1
  generalize decide (h.num = 0) = v0 at *
  generalize decide (h.text = []) = v1 at *
  generalize decide (n = 1) = v2 at *
  cases v0 <;> cases v1 <;> cases v2 <;> (
    go_enter Tryd.func55, Tryd.ntmps55
    go_wp2
    go_ret
    exact ⟨rfl, HB.out⟩)
set_option maxRecDepth 20000 in
set_option maxHeartbeats 4000000 in
theorem head_two5 (h : Hd) (ka : Option Addr) (n c : Nat) (w : World) (hk : h.kind = 5) :
    Calls Tryd.prog 55 #[.agg #[.int .i64 h.kind, .int .i64 h.num, .string (bs h.text), .slice ka n c, .int .i64 h.pl]] w fun e w' => e = .returned (.bool (decide (h.num = 0) && (decide (h.text = []) && decide (n = 2)))) ∧ Below w.heap.size w w' := by
  have k1 : (h.kind == 1) = false := by rw [beq_eq_false_iff_ne]; omega
  have k2 : (h.kind == 2) = false := by rw [beq_eq_false_iff_ne]; omega
  have k3 : (h.kind == 3) = false := by rw [beq_eq_false_iff_ne]; omega
  have k4 : (h.kind == 4) = false := by rw [beq_eq_false_iff_ne]; omega
  have k5 : (h.kind == 5) = true := by rw [beq_iff_eq]; omega
  have HB : Hid (Below w.heap.size w (w.alloc (.cells #[.int .i64 h.kind, .int .i64 h.num, .string (bs h.text), .slice ka n c, .int .i64 h.pl] 40))) := (Below.refl _ _).alloc (Nat.le_refl _) _
  clear hk
  have b0 : (h.num == 0) = decide (h.num = 0) := rfl
  have b1 : ((bs h.text).toList == []) = decide (h.text = []) := emptyT _
  have b2 : ((n : Int) == 2) = decide (n = 2) := natB n 2
  generalize decide (h.num = 0) = v0 at *
  generalize decide (h.text = []) = v1 at *
  generalize decide (n = 2) = v2 at *
  cases v0 <;> cases v1 <;> cases v2 <;> (
    go_enter Tryd.func55, Tryd.ntmps55
    go_wp2
    go_ret
    exact ⟨rfl, HB.out⟩)
set_option maxRecDepth 20000 in
set_option maxHeartbeats 4000000 in
theorem head_two6 (h : Hd) (ka : Option Addr) (n c : Nat) (w : World) (hk : h.kind = 6) :
    Calls Tryd.prog 55 #[.agg #[.int .i64 h.kind, .int .i64 h.num, .string (bs h.text), .slice ka n c, .int .i64 h.pl]] w fun e w' => e = .returned (.bool (decide (h.num = 0) && (decide (h.text = []) && decide (n = 2)))) ∧ Below w.heap.size w w' := by
  have k1 : (h.kind == 1) = false := by rw [beq_eq_false_iff_ne]; omega
  have k2 : (h.kind == 2) = false := by rw [beq_eq_false_iff_ne]; omega
  have k3 : (h.kind == 3) = false := by rw [beq_eq_false_iff_ne]; omega
  have k4 : (h.kind == 4) = false := by rw [beq_eq_false_iff_ne]; omega
  have k5 : (h.kind == 5) = false := by rw [beq_eq_false_iff_ne]; omega
  have k6 : (h.kind == 6) = true := by rw [beq_iff_eq]; omega
  have HB : Hid (Below w.heap.size w (w.alloc (.cells #[.int .i64 h.kind, .int .i64 h.num, .string (bs h.text), .slice ka n c, .int .i64 h.pl] 40))) := (Below.refl _ _).alloc (Nat.le_refl _) _
  clear hk
  have b0 : (h.num == 0) = decide (h.num = 0) := rfl
  have b1 : ((bs h.text).toList == []) = decide (h.text = []) := emptyT _
  have b2 : ((n : Int) == 2) = decide (n = 2) := natB n 2
  generalize decide (h.num = 0) = v0 at *
  generalize decide (h.text = []) = v1 at *
  generalize decide (n = 2) = v2 at *
  cases v0 <;> cases v1 <;> cases v2 <;> (
    go_enter Tryd.func55, Tryd.ntmps55
    go_wp2
    go_ret
    exact ⟨rfl, HB.out⟩)
set_option maxRecDepth 20000 in
set_option maxHeartbeats 4000000 in
theorem head_two7 (h : Hd) (ka : Option Addr) (n c : Nat) (w : World) (hk : h.kind = 7) :
    Calls Tryd.prog 55 #[.agg #[.int .i64 h.kind, .int .i64 h.num, .string (bs h.text), .slice ka n c, .int .i64 h.pl]] w fun e w' => e = .returned (.bool (decide (h.num = 0) && (decide (h.text = []) && decide (n = 2)))) ∧ Below w.heap.size w w' := by
  have k1 : (h.kind == 1) = false := by rw [beq_eq_false_iff_ne]; omega
  have k2 : (h.kind == 2) = false := by rw [beq_eq_false_iff_ne]; omega
  have k3 : (h.kind == 3) = false := by rw [beq_eq_false_iff_ne]; omega
  have k4 : (h.kind == 4) = false := by rw [beq_eq_false_iff_ne]; omega
  have k5 : (h.kind == 5) = false := by rw [beq_eq_false_iff_ne]; omega
  have k6 : (h.kind == 6) = false := by rw [beq_eq_false_iff_ne]; omega
  have k7 : (h.kind == 7) = true := by rw [beq_iff_eq]; omega
  have HB : Hid (Below w.heap.size w (w.alloc (.cells #[.int .i64 h.kind, .int .i64 h.num, .string (bs h.text), .slice ka n c, .int .i64 h.pl] 40))) := (Below.refl _ _).alloc (Nat.le_refl _) _
  clear hk
  have b0 : (h.num == 0) = decide (h.num = 0) := rfl
  have b1 : ((bs h.text).toList == []) = decide (h.text = []) := emptyT _
  have b2 : ((n : Int) == 2) = decide (n = 2) := natB n 2
  generalize decide (h.num = 0) = v0 at *
  generalize decide (h.text = []) = v1 at *
  generalize decide (n = 2) = v2 at *
  cases v0 <;> cases v1 <;> cases v2 <;> (
    go_enter Tryd.func55, Tryd.ntmps55
    go_wp2
    go_ret
    exact ⟨rfl, HB.out⟩)
set_option maxRecDepth 20000 in
set_option maxHeartbeats 4000000 in
theorem head_many8 (h : Hd) (ka : Option Addr) (n c : Nat) (w : World) (hn : n ≤ maxLen) (hk : h.kind = 8) :
    Calls Tryd.prog 55 #[.agg #[.int .i64 h.kind, .int .i64 h.num, .string (bs h.text), .slice ka n c, .int .i64 h.pl]] w fun e w' => e = .returned (.bool (decide (h.num = 0) && (decide (h.text = []) && (decide (1 ≤ n) && decide (n ≤ 8))))) ∧ Below w.heap.size w w' := by
  unfold maxLen at hn
  have k1 : (h.kind == 1) = false := by rw [beq_eq_false_iff_ne]; omega
  have k2 : (h.kind == 2) = false := by rw [beq_eq_false_iff_ne]; omega
  have k3 : (h.kind == 3) = false := by rw [beq_eq_false_iff_ne]; omega
  have k4 : (h.kind == 4) = false := by rw [beq_eq_false_iff_ne]; omega
  have k5 : (h.kind == 5) = false := by rw [beq_eq_false_iff_ne]; omega
  have k6 : (h.kind == 6) = false := by rw [beq_eq_false_iff_ne]; omega
  have k7 : (h.kind == 7) = false := by rw [beq_eq_false_iff_ne]; omega
  have k8 : (h.kind == 8) = true := by rw [beq_iff_eq]; omega
  have HB : Hid (Below w.heap.size w (w.alloc (.cells #[.int .i64 h.kind, .int .i64 h.num, .string (bs h.text), .slice ka n c, .int .i64 h.pl] 40))) := (Below.refl _ _).alloc (Nat.le_refl _) _
  clear hk
  have b0 : (h.num == 0) = decide (h.num = 0) := rfl
  have b1 : ((bs h.text).toList == []) = decide (h.text = []) := emptyT _
  have b2 : decide ((1 : Int) ≤ (n : Int)) = decide (1 ≤ n) := by rw [Bool.eq_iff_iff]; simp; omega
  have b3 : decide ((n : Int) ≤ 8) = decide (n ≤ 8) := by rw [Bool.eq_iff_iff]; simp; omega
  generalize decide (h.num = 0) = v0 at *
  generalize decide (h.text = []) = v1 at *
  generalize decide (1 ≤ n) = v2 at *
  generalize decide (n ≤ 8) = v3 at *
  cases v0 <;> cases v1 <;> cases v2 <;> cases v3 <;> (
    go_enter Tryd.func55, Tryd.ntmps55
    go_wp2
    go_ret
    exact ⟨rfl, HB.out⟩)
set_option maxRecDepth 20000 in
set_option maxHeartbeats 4000000 in
theorem head_many9 (h : Hd) (ka : Option Addr) (n c : Nat) (w : World) (hn : n ≤ maxLen) (hk : h.kind = 9) :
    Calls Tryd.prog 55 #[.agg #[.int .i64 h.kind, .int .i64 h.num, .string (bs h.text), .slice ka n c, .int .i64 h.pl]] w fun e w' => e = .returned (.bool (decide (h.num = 0) && (decide (h.text = []) && (decide (1 ≤ n) && decide (n ≤ 8))))) ∧ Below w.heap.size w w' := by
  unfold maxLen at hn
  have k1 : (h.kind == 1) = false := by rw [beq_eq_false_iff_ne]; omega
  have k2 : (h.kind == 2) = false := by rw [beq_eq_false_iff_ne]; omega
  have k3 : (h.kind == 3) = false := by rw [beq_eq_false_iff_ne]; omega
  have k4 : (h.kind == 4) = false := by rw [beq_eq_false_iff_ne]; omega
  have k5 : (h.kind == 5) = false := by rw [beq_eq_false_iff_ne]; omega
  have k6 : (h.kind == 6) = false := by rw [beq_eq_false_iff_ne]; omega
  have k7 : (h.kind == 7) = false := by rw [beq_eq_false_iff_ne]; omega
  have k8 : (h.kind == 8) = false := by rw [beq_eq_false_iff_ne]; omega
  have k9 : (h.kind == 9) = true := by rw [beq_iff_eq]; omega
  have HB : Hid (Below w.heap.size w (w.alloc (.cells #[.int .i64 h.kind, .int .i64 h.num, .string (bs h.text), .slice ka n c, .int .i64 h.pl] 40))) := (Below.refl _ _).alloc (Nat.le_refl _) _
  clear hk
  have b0 : (h.num == 0) = decide (h.num = 0) := rfl
  have b1 : ((bs h.text).toList == []) = decide (h.text = []) := emptyT _
  have b2 : decide ((1 : Int) ≤ (n : Int)) = decide (1 ≤ n) := by rw [Bool.eq_iff_iff]; simp; omega
  have b3 : decide ((n : Int) ≤ 8) = decide (n ≤ 8) := by rw [Bool.eq_iff_iff]; simp; omega
  generalize decide (h.num = 0) = v0 at *
  generalize decide (h.text = []) = v1 at *
  generalize decide (1 ≤ n) = v2 at *
  generalize decide (n ≤ 8) = v3 at *
  cases v0 <;> cases v1 <;> cases v2 <;> cases v3 <;> (
    go_enter Tryd.func55, Tryd.ntmps55
    go_wp2
    go_ret
    exact ⟨rfl, HB.out⟩)
set_option maxRecDepth 20000 in
set_option maxHeartbeats 4000000 in
theorem head_name (h : Hd) (ka : Option Addr) (n c : Nat) (w : World) (hk : h.kind = 2) :
    Calls Tryd.prog 55 #[.agg #[.int .i64 h.kind, .int .i64 h.num, .string (bs h.text), .slice ka n c, .int .i64 h.pl]] w fun e w' => e = .returned (.bool (decide (h.num = 0) && (nameB h.text && decide (n = 0)))) ∧ Below w.heap.size w w' := by
  have HC : Hid (∀ w, Calls Tryd.prog 37 #[.string (bs h.text)] w fun e w' => e = .returned (.bool (nameB h.text)) ∧ Below w.heap.size w w') := fun w => by
    have := isName_calls (bs h.text) w
    rw [bs_list] at this; exact this
  have k1 : (h.kind == 1) = false := by rw [beq_eq_false_iff_ne]; omega
  have k2 : (h.kind == 2) = true := by rw [beq_iff_eq]; omega
  clear hk
  have b0 : (h.num == 0) = decide (h.num = 0) := rfl
  have b3 : ((n : Int) == 0) = decide (n = 0) := natB n 0
  generalize decide (h.num = 0) = v0 at *
  generalize decide (n = 0) = v3 at *
  generalize nameB h.text = v1 at *
  have hbx : Below w.heap.size w (w.alloc (.cells #[.int .i64 h.kind, .int .i64 h.num, .string (bs h.text), .slice ka n c, .int .i64 h.pl] 40)) := (Below.refl _ _).alloc (Nat.le_refl _) _
  have hnw := heap_alloc_new w (.cells #[.int .i64 h.kind, .int .i64 h.num, .string (bs h.text), .slice ka n c, .int .i64 h.pl] 40)
  have HB : Hid (Below w.heap.size w (w.alloc (.cells #[.int .i64 h.kind, .int .i64 h.num, .string (bs h.text), .slice ka n c, .int .i64 h.pl] 40)) ∧ (w.alloc (.cells #[.int .i64 h.kind, .int .i64 h.num, .string (bs h.text), .slice ka n c, .int .i64 h.pl] 40)).heap[w.heap.size]? = some (.cells #[.int .i64 h.kind, .int .i64 h.num, .string (bs h.text), .slice ka n c, .int .i64 h.pl] 40 (0, 0))) := ⟨hbx, hnw⟩
  clear hbx hnw
  cases v0 with
  | false =>
    go_enter Tryd.func55, Tryd.ntmps55
    go_wp2
    go_ret
    exact ⟨rfl, HB.out.1⟩
  | true =>
    cases v1 <;> cases v3 <;> (
      go_enter Tryd.func55, Tryd.ntmps55
      go_wp2_with fail
      refine (HC.out _).mono ?_
      rintro e w2 ⟨rfl, hb2⟩
      have hk3 : w2.heap[w.heap.size]? = some (.cells #[.int .i64 h.kind, .int .i64 h.num, .string (bs h.text), .slice ka n c, .int .i64 h.pl] 40 (0, 0)) := by rw [hb2.block _ (lt_block HB.out.2)]; exact HB.out.2
      have c3 := blk (i := 3) hk3 rfl
      have HB2 : Hid (Below w.heap.size w w2) := HB.out.1.trans (hb2.mono HB.out.1.size)
      clear hk3 hb2 HC HB
      go_wp2
      go_ret
      exact ⟨rfl, HB2.out⟩)
set_option maxRecDepth 20000 in
set_option maxHeartbeats 4000000 in
theorem head_text (h : Hd) (ka : Option Addr) (n c : Nat) (w : World) (ht : h.text.length ≤ maxLen) (hk : h.kind = 3) :
    Calls Tryd.prog 55 #[.agg #[.int .i64 h.kind, .int .i64 h.num, .string (bs h.text), .slice ka n c, .int .i64 h.pl]] w fun e w' => e = .returned (.bool (decide (h.num = 0) && (txB h.text && decide (n = 0)))) ∧ Below w.heap.size w w' := by
  have HC : Hid (∀ w, Calls Tryd.prog 80 #[.string (bs h.text)] w fun e w' => e = .returned (.bool (txB h.text)) ∧ Below w.heap.size w w') := fun w => by
    have := isTextP_calls (bs h.text) w (by rw [bs_size]; exact ht)
    rw [bs_list] at this; exact this
  have k1 : (h.kind == 1) = false := by rw [beq_eq_false_iff_ne]; omega
  have k2 : (h.kind == 2) = false := by rw [beq_eq_false_iff_ne]; omega
  have k3 : (h.kind == 3) = true := by rw [beq_iff_eq]; omega
  clear hk
  have b0 : (h.num == 0) = decide (h.num = 0) := rfl
  have b3 : ((n : Int) == 0) = decide (n = 0) := natB n 0
  generalize decide (h.num = 0) = v0 at *
  generalize decide (n = 0) = v3 at *
  generalize txB h.text = v1 at *
  have hbx : Below w.heap.size w (w.alloc (.cells #[.int .i64 h.kind, .int .i64 h.num, .string (bs h.text), .slice ka n c, .int .i64 h.pl] 40)) := (Below.refl _ _).alloc (Nat.le_refl _) _
  have hnw := heap_alloc_new w (.cells #[.int .i64 h.kind, .int .i64 h.num, .string (bs h.text), .slice ka n c, .int .i64 h.pl] 40)
  have HB : Hid (Below w.heap.size w (w.alloc (.cells #[.int .i64 h.kind, .int .i64 h.num, .string (bs h.text), .slice ka n c, .int .i64 h.pl] 40)) ∧ (w.alloc (.cells #[.int .i64 h.kind, .int .i64 h.num, .string (bs h.text), .slice ka n c, .int .i64 h.pl] 40)).heap[w.heap.size]? = some (.cells #[.int .i64 h.kind, .int .i64 h.num, .string (bs h.text), .slice ka n c, .int .i64 h.pl] 40 (0, 0))) := ⟨hbx, hnw⟩
  clear hbx hnw
  cases v0 with
  | false =>
    go_enter Tryd.func55, Tryd.ntmps55
    go_wp2
    go_ret
    exact ⟨rfl, HB.out.1⟩
  | true =>
    cases v1 <;> cases v3 <;> (
      go_enter Tryd.func55, Tryd.ntmps55
      go_wp2_with fail
      refine (HC.out _).mono ?_
      rintro e w2 ⟨rfl, hb2⟩
      have hk3 : w2.heap[w.heap.size]? = some (.cells #[.int .i64 h.kind, .int .i64 h.num, .string (bs h.text), .slice ka n c, .int .i64 h.pl] 40 (0, 0)) := by rw [hb2.block _ (lt_block HB.out.2)]; exact HB.out.2
      have c3 := blk (i := 3) hk3 rfl
      have HB2 : Hid (Below w.heap.size w w2) := HB.out.1.trans (hb2.mono HB.out.1.size)
      clear hk3 hb2 HC HB
      go_wp2
      go_ret
      exact ⟨rfl, HB2.out⟩)
set_option maxRecDepth 20000 in
set_option maxHeartbeats 4000000 in
theorem head_none (h : Hd) (ka : Option Addr) (n c : Nat) (w : World) (hk : ¬ (1 ≤ h.kind ∧ h.kind ≤ 9)) :
    Calls Tryd.prog 55 #[.agg #[.int .i64 h.kind, .int .i64 h.num, .string (bs h.text), .slice ka n c, .int .i64 h.pl]] w fun e w' => e = .returned (.bool false) ∧ Below w.heap.size w w' := by
  have k1 : (h.kind == 1) = false := by rw [beq_eq_false_iff_ne]; omega
  have k2 : (h.kind == 2) = false := by rw [beq_eq_false_iff_ne]; omega
  have k3 : (h.kind == 3) = false := by rw [beq_eq_false_iff_ne]; omega
  have k4 : (h.kind == 4) = false := by rw [beq_eq_false_iff_ne]; omega
  have k5 : (h.kind == 5) = false := by rw [beq_eq_false_iff_ne]; omega
  have k6 : (h.kind == 6) = false := by rw [beq_eq_false_iff_ne]; omega
  have k7 : (h.kind == 7) = false := by rw [beq_eq_false_iff_ne]; omega
  have k8 : (h.kind == 8) = false := by rw [beq_eq_false_iff_ne]; omega
  have k9 : (h.kind == 9) = false := by rw [beq_eq_false_iff_ne]; omega
  have HB : Hid (Below w.heap.size w (w.alloc (.cells #[.int .i64 h.kind, .int .i64 h.num, .string (bs h.text), .slice ka n c, .int .i64 h.pl] 40))) := (Below.refl _ _).alloc (Nat.le_refl _) _
  clear hk
  go_enter Tryd.func55, Tryd.ntmps55
  go_wp2
  go_ret
  exact ⟨rfl, HB.out⟩
theorem head_calls (h : Hd) (ka : Option Addr) (n c : Nat) (w : World) (hn : n ≤ maxLen) (ht : h.text.length ≤ maxLen) :
    Calls Tryd.prog 55 #[.agg #[.int .i64 h.kind, .int .i64 h.num, .string (bs h.text), .slice ka n c, .int .i64 h.pl]] w fun e w' => e = .returned (.bool (hdRight h n)) ∧ Below w.heap.size w w' := by
  unfold hdRight
  by_cases h1 : h.kind = 1
  · rw [if_pos h1]; exact head_num h ka n c w h1
  · rw [if_neg h1]
    by_cases h2 : h.kind = 2
    · rw [if_pos h2]; exact head_name h ka n c w h2
    · rw [if_neg h2]
      by_cases h3 : h.kind = 3
      · rw [if_pos h3]; exact head_text h ka n c w ht h3
      · rw [if_neg h3]
        by_cases h4 : h.kind = 4
        · rw [if_pos h4]; exact head_neg h ka n c w h4
        · rw [if_neg h4]
          by_cases h5 : h.kind = 5 ∨ h.kind = 6 ∨ h.kind = 7
          · rw [if_pos h5]
            rcases h5 with h5 | h5 | h5
            · exact head_two5 h ka n c w h5
            · exact head_two6 h ka n c w h5
            · exact head_two7 h ka n c w h5
          · rw [if_neg h5]
            by_cases h8 : h.kind = 8 ∨ h.kind = 9
            · rw [if_pos h8]
              rcases h8 with h8 | h8
              · exact head_many8 h ka n c w hn h8
              · exact head_many9 h ka n c w hn h8
            · rw [if_neg h8]
              exact head_none h ka n c w (by omega)

end Go.Proofs.YtpeldiibjhffiaaDoor
