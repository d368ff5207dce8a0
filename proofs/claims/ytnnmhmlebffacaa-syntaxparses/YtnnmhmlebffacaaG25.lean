/-
  What stands in memory while the document's reader reads the Kids of min and max. Same: of lists of expressions, of trees.
-/
import Derived.Test.YtnnmhmlebffacaaG22
import Derived.Test.YtnnmhmlebffacaaG24
namespace Go.Proofs.Ytnnmhmlebffacaa
open Go.RowKit Go.Deep

theorem Kr.grown {B b : Nat} {w w1 w2 : World} {row : Option Nat} (h : Kr B b w w1) (hg : w1.grownBy w2 row) (hr : ∀ k, row = some k → w.heap.size ≤ k) : Kr B b w w2 := by
  have h1 : Below w.heap.size w1 w2 := Below.grown (Below.refl _ _) hg h.size hr
  exact ⟨h1.os.trans h.os, h1.tape.trans h.tape, h1.output.trans h.output, Nat.le_trans h.size h1.size, fun g hk hb ht => (h1.block g hk).trans (h.block g hk hb ht)⟩
theorem RIs.grown {B b : Nat} {ta : Option Addr} {tn tc : Nat} {T l : List Tk} {bad : Bool} {m : List Int} {W w4 : World} {row : Option Nat} (h : RIs B b ta tn tc T l bad m W) (hg : W.grownBy w4 row) (hr : ∀ k, row = some k → B ≤ k ∧ ∃ cs ty, ty ≠ 3 ∧ ty ≠ 58 ∧ W.heap[k]? = some (.cells cs ty (0, 0))) : RIs B b ta tn tc T l bad m w4 := by
  obtain ⟨m', h1, h2⟩ := h
  obtain ⟨k, mv, mn, q1, q2, q3, q4⟩ := h1.block
  have hb : w4.heap[b]? = W.heap[b]? := hg.block b (lt_block q3) (fun e => by
    obtain ⟨_, cs, ty, _, t2, hc⟩ := hr b e.symm
    rw [q3] at hc; cases hc; exact t2 rfl)
  refine ⟨m', ⟨⟨k, mv, mn, q1, q2, by rw [hb]; exact q3, owned_of_block q4 fun g cur _ hx => hg.block g (lt_block hx) (fun e => ?_)⟩, h1.toks.keep fun x hx => hg.block x.block ?_ (fun e => ?_), h1.low, h1.nb, h1.last, h1.few, h1.cnt⟩, h2⟩
  · obtain ⟨_, cs, ty, t1, _, hc⟩ := hr g e.symm
    rw [hx] at hc; cases hc; exact t1 rfl
  · have := h1.low x hx; have := h1.nb; have := h1.lt; omega
  · have h5 := (hr _ e.symm).1
    have := h1.low x hx
    omega
structure KR (B b : Nat) (ta : Option Addr) (tn tc : Nat) (T : List Tk) (w : World) (l : List Tk) (bad : Bool) (m : List Int) (xs : List Xs) (v : Value) (n : Nat) (W : World) : Prop where
  p : RIs B b ta tn tc T l bad m W
  kr : Kr B b w W
  nb : b < w.heap.size
  nB : B ≤ b
  own : W.ownsRow w.heap.size 35 5 v n (xRow xs)
/-- All that was read is known. -/
def KX (w : World) (xs : List Xs) (v : Value) (W : World) : Prop := ∀ x ∈ xs, ExAt true (fun g => w.heap.size ≤ g ∧ some g ≠ v.ownBlock) W x.1 x.2.1 x.2.2.1
section
variable {B b : Nat} {ta : Option Addr} {tn tc : Nat} {T : List Tk} {w : World} {l : List Tk} {bad : Bool} {m : List Int} {xs : List Xs} {v : Value} {n : Nat} {W W' : World}
theorem KR.go (H : KR B b ta tn tc T w l bad m xs v n W) (hk : Kr B b W W') {l' : List Tk} {bad' : Bool} {m' : List Int} (hp : RIs B b ta tn tc T l' bad' m' W') : KR B b ta tn tc T w l' bad' m' xs v n W' := by
  obtain ⟨cs, hb⟩ := H.p.own
  exact ⟨hp, H.kr.trans hk, H.nb, H.nB, owned_of_block H.own fun g cur _ hc => by rw [hk.keep hc (fun e => by rw [e, hb] at hc; cases hc) (by decide), hc]⟩
theorem KR.next (H : KR B b ta tn tc T w l bad m xs v n W) (hk : Below W.heap.size W W') : KR B b ta tn tc T w l bad m xs v n W' := H.go (Kr.of_below hk) (H.p.below hk)
theorem KX.go (h : KX w xs v W) (hk : Kr B b W W') {cs : Array Value} (hb : W.heap[b]? = some (.cells cs 58 (0, 0))) : KX w xs v W' := fun x hx => (h x hx).kr hk hb
theorem KX.next (h : KX w xs v W) (hk : Below W.heap.size W W') : KX w xs v W' := fun x hx => (h x hx).below hk
theorem KR.len (H : KR B b ta tn tc T w l bad m xs v n W) : n = xs.length := by have := H.own.1; rw [xRow_length] at this; omega
/-- One more. -/
theorem KR.add (H : KR B b ta tn tc T w l bad m xs v n W) {x : Xs} {v' : Value} {w4 : World}
    (ho : w4.ownsRow w.heap.size 35 5 v' (n + 1) (xRow xs ++ xsCells x)) (hg : W.grownBy w4 v.ownBlock) (hf : ∀ g, v'.ownBlock = some g → some g = v.ownBlock ∨ W.heap.size ≤ g) :
    KR B b ta tn tc T w l bad m (xs ++ [x]) v' (n + 1) w4 ∧ ∀ y : Ex, KX w xs v W → ExAt true (fun g => w.heap.size ≤ g ∧ some g ≠ v.ownBlock) W y x.2.1 x.2.2.1 → x.1 = y → KX w (xs ++ [x]) v' w4 := by
  have hnb := H.nb
  have hnB := H.nB
  have hkeep : ∀ g, g < W.heap.size → (w.heap.size ≤ g ∧ some g ≠ v.ownBlock) → w4.heap[g]? = W.heap[g]? := fun g h1 h2 => hg.block g h1 h2.2
  have hbase : ∀ g, g < W.heap.size → (w.heap.size ≤ g ∧ some g ≠ v.ownBlock) → (w.heap.size ≤ g ∧ some g ≠ v'.ownBlock) := fun g h1 h2 => by
    refine ⟨h2.1, fun e => ?_⟩
    rcases hf g e.symm with h3 | h3
    · exact h2.2 h3
    · omega
  refine ⟨⟨H.p.grown hg fun k hk => ?_, H.kr.grown hg (fun k hk => (H.own.lt k hk).1), hnb, hnB, by rw [xRow_snoc]; exact ho⟩, fun y hX hy e => ?_⟩
  · have h1 := (H.own.lt k hk).1
    refine ⟨by omega, ?_⟩
    rcases H.own.2 with ⟨hv, _⟩ | ⟨g, cap, cur, hv, _, hgr, _⟩
    · rw [hv] at hk; cases hk
    · rw [hv] at hk
      have : g = k := by simpa [Value.ownBlock] using hk
      subst this
      exact ⟨cur, 35, by decide, by decide, hgr⟩
  · intro z hz
    have hE : ExAt true (fun g => w.heap.size ≤ g ∧ some g ≠ v.ownBlock) W z.1 z.2.1 z.2.2.1 := by
      rcases List.mem_append.1 hz with hz | hz
      · exact hX z hz
      · rw [List.mem_singleton.1 hz, e]; exact hy
    have h1 : ExAt true (fun g => (w.heap.size ≤ g ∧ some g ≠ v.ownBlock) ∧ (w.heap.size ≤ g ∧ some g ≠ v'.ownBlock)) W z.1 z.2.1 z.2.2.1 := hE.base fun g h1 h2 => ⟨h2, hbase g h1 h2⟩
    exact (h1.keep fun g h2 h3 => hkeep g h2 h3.1).base fun g _ h2 => h2.2
theorem KR.done (H : KR B b ta tn tc T w l bad m xs v n W) (hX : KX w xs v W) {ao : Option Addr} {cap : Nat} (hv : v = .slice ao n cap) : FoAt true (fun g => w.heap.size ≤ g) W (ofL (xs.map (·.1))) ao n := by
  have ho := H.own
  rw [hv] at ho
  exact (foAt_owned (fun g _ hg => hg) ho fun x hx => (hX x hx).base fun g _ hg => hg.1).1
end
/-- The head of a round: one more is read, its place is told if there are as many as may be. -/
def headG (ex : List Tk → Rs Ex) (m2 : Nat) (ks : List Ex) (l : List Tk) : Rs (List Ex) := note (decide (ks.length = 8)) l ((ex l).bind fun e l2 => kidsGo ex m2 (ks ++ [e]) l2)
theorem kidsG_head (ex : List Tk → Rs Ex) (l : List Tk) : kidsG ex l = (signG [40] l).bind fun _ l1 => closeG [41] (headG ex mx [] l1) := rfl
/-- A place is put down. -/
theorem RIs.noted {B b : Nat} {ta : Option Addr} {tn tc : Nat} {T l : List Tk} {m : List Int} {W w4 : World} {k : Nat} {mv v' : Value} {mn : Nat} {z : Int} (h : RIs B b ta tn tc T l false m W) (hb : W.heap[b]? = some (.cells #[.slice ta tn tc, .int .i64 (k : Int), .bool false, mv] 58 (0, 0))) (ho : W.ownsRow B 3 1 mv mn (m.map fun z => .int .i64 z)) (hc : m.length + 1 + l.length ≤ 4200)
    (ho4 : w4.ownsRow B 3 1 v' (mn + 1) ((m.map fun z => .int .i64 z) ++ [.int .i64 z])) (hg : W.grownBy w4 mv.ownBlock) :
    w4.heap[b]? = some (.cells #[.slice ta tn tc, .int .i64 (k : Int), .bool false, mv] 58 (0, 0)) ∧ Kr B b W (w4.setCell ⟨b, 3, none⟩ v') ∧ RIs B b ta tn tc T l false (m ++ [z]) (w4.setCell ⟨b, 3, none⟩ v') := by
  obtain ⟨m', h1, h2⟩ := h
  have h2' := h2 rfl
  subst h2'
  obtain ⟨k', mv', mn', q1, q2, q3, q4⟩ := h1.block
  rw [hb] at q3
  cases q3
  have hrow : ∀ g, mv.ownBlock = some g → B ≤ g ∧ ∃ cs, W.heap[g]? = some (.cells cs 3 (0, 0)) := fun g hgo => by
    refine ⟨(ho.lt g hgo).1, ?_⟩
    rcases ho.2 with ⟨hv, _⟩ | ⟨g0, cap, cur, hv, _, hgr, _⟩
    · rw [hv] at hgo; cases hgo
    · rw [hv] at hgo
      have : g0 = g := by simpa [Value.ownBlock] using hgo
      subst this
      exact ⟨cur, hgr⟩
  have hne : some b ≠ mv.ownBlock := fun e => by
    obtain ⟨_, cs, hx⟩ := hrow b e.symm
    rw [hb] at hx; cases hx
  have hb4 : w4.heap[b]? = some (.cells #[.slice ta tn tc, .int .i64 (k : Int), .bool false, mv] 58 (0, 0)) := by rw [hg.block b (lt_block hb) hne]; exact hb
  have hoth : ∀ g, g ≠ b → (w4.setCell ⟨b, 3, none⟩ v').heap[g]? = w4.heap[g]? := fun g hx => heap_other rfl hx
  have hG0 : Below 0 W w4 := Below.grown (Below.refl _ _) hg (Nat.zero_le _) (fun _ _ => Nat.zero_le _)
  have hKr : Kr B b W w4 := ⟨hG0.os, hG0.tape, hG0.output, hG0.size, fun g hlt _ ht => hg.block g hlt (fun e => by
    obtain ⟨r1, cs, r2⟩ := hrow g e.symm
    exact ht r1 cs _ r2)⟩
  refine ⟨hb4, hKr.setCell 3 v', m' ++ [z], ⟨⟨k, v', mn + 1, q1, q2, heap_put hb4 rfl, ?_⟩, ?_, h1.low, h1.nb, h1.last, h1.few, fun _ => by simp; omega⟩, fun _ => rfl⟩
  · have := owned_of_block ho4 (w' := w4.setCell ⟨b, 3, none⟩ v') fun g cur hgo hx => hoth g (fun e => by rw [e, hb4] at hx; cases hx)
    simpa using this
  · refine h1.toks.keep fun x hx => ?_
    have h5 := h1.low x hx
    have h6 := h1.nb
    have h7 := h1.lt
    rw [hoth x.block (by omega), hg.block x.block (by omega) (fun e => by have := (hrow _ e.symm).1; omega)]
end Go.Proofs.Ytnnmhmlebffacaa
namespace Go.Proofs.Ytnnmhmlebffacaa
open Go.RowKit Go.Deep

def sameH (a b : Hd) : Bool := decide (a.kind = b.kind) && (decide (a.num = b.num) && decide (a.text = b.text))
def sameF : Fo → Fo → Bool
  | .nil, .nil => true
  | .node _ _ h k r, .node _ _ h' k' r' => sameH h h' && (sameF k k' && sameF r r')
  | _, _ => false
def sameI : List It → List It → Bool
  | [], [] => true
  | i :: r, j :: s => (decide (i.kind = j.kind) && (decide (i.name = j.name) && sameF i.args j.args)) && sameI r s
  | _, _ => false
theorem sameF_len : ∀ (F G : Fo), lenF F ≠ lenF G → sameF F G = false
  | .nil, .nil, h => absurd rfl h
  | .nil, .node _ _ _ _ _, _ => rfl
  | .node _ _ _ _ _, .nil, _ => rfl
  | .node _ _ _ _ r, .node _ _ _ _ s, h => by
    have : sameF r s = false := sameF_len r s (by simp [lenF] at h; exact h)
    simp [sameF, this]
theorem sameI_len : ∀ (L M : List It), L.length ≠ M.length → sameI L M = false
  | [], [], h => absurd rfl h
  | [], _ :: _, _ => rfl
  | _ :: _, [], _ => rfl
  | _ :: r, _ :: s, h => by
    have : sameI r s = false := sameI_len r s (by simpa using h)
    simp [sameI, this]
theorem sameF_refl : ∀ (F : Fo), sameF F F = true
  | .nil => rfl
  | .node _ _ h k r => by simp [sameF, sameH, sameF_refl k, sameF_refl r]
theorem sameI_refl : ∀ (L : List It), sameI L L = true
  | [] => rfl
  | i :: r => by simp [sameI, sameF_refl, sameI_refl r]
set_option maxRecDepth 20000 in
set_option maxHeartbeats 4000000 in
theorem sameAll_calls : ∀ (N : Nat) (F G : Fo) (ao bo : Option Addr) (n c m d : Nat) (w : World) (o o' : Bool) (S S' : Nat → Prop), FoAt o S w F ao n → FoAt o' S' w G bo m → n ≤ maxLen → m ≤ maxLen → szF F < N →
    Calls Try.prog 33 #[.slice ao n c, .slice bo m d] w fun e' w' => e' = .returned (.bool (sameF F G)) ∧ Below w.heap.size w w'
  | 0, _, _, _, _, _, _, _, _, _, _, _, _, _, _, _, _, _, h => by omega
  | N + 1, F, G, ao, bo, n, c, m, d, w, o, o', S, S', hF, hG, hn, hm, hN => by
    have IH : Hid (∀ (F G : Fo) (ao bo : Option Addr) (n c m d : Nat) (w : World), FoAt o S w F ao n → FoAt o' S' w G bo m → n ≤ maxLen → m ≤ maxLen → szF F < N →
      Calls Try.prog 33 #[.slice ao n c, .slice bo m d] w fun e' w' => e' = .returned (.bool (sameF F G)) ∧ Below w.heap.size w w') := fun F G ao bo n c m d w h1 h2 h3 h4 h5 => sameAll_calls N F G ao bo n c m d w o o' S S' h1 h2 h3 h4 h5
    have hm2 := hm
    have hn2 := hn
    unfold maxLen at hm2 hn2
    by_cases hnm : n = m
    · subst hnm
      have q0 : ((n : Int) != (n : Int)) = false := by simp
      obtain ⟨g, off, hka, hF'⟩ := foAt_addr hF
      obtain ⟨g', off', hkb, hG'⟩ := foAt_addr hG
      generalize hD : sameF F G = D at *
      have H0 : Hid (FoAt o S w F (some ⟨g, off + 0 * 5, none⟩) (n - 0) ∧ FoAt o' S' w G (some ⟨g', off' + 0 * 5, none⟩) (n - 0) ∧ szF F ≤ N ∧ sameF F G = D) := ⟨hF', hG', by omega, hD⟩
      clear hF hG hF' hG' hD hN
      go_enter Try.func33, Try.ntmps33
      go_wp2_with fail
      go_loopg [15] n (fun k iv wr => ∃ (F' G' : Fo) (i : Nat), iv = .int .i64 (i : Int) ∧ i + k = n ∧ Hid (FoAt o S wr F' (some ⟨g, off + i * 5, none⟩) (n - i) ∧ FoAt o' S' wr G' (some ⟨g', off' + i * 5, none⟩) (n - i) ∧ szF F' ≤ N ∧ sameF F' G' = D ∧ Below w.heap.size w wr))
      case atStart => exact ⟨F, G, 0, rfl, by omega, H0.out.1, H0.out.2.1, H0.out.2.2.1, H0.out.2.2.2, Below.refl _ _⟩
      case round =>
        clear H0
        obtain ⟨F', G', i, rfl, hik, HT⟩ := hrel
        by_cases hi : i < n
        · obtain ⟨b1, o1, h1, k1, r1, ka1, kc1, kk1, rfl, -, hok1, hkc1, ⟨c0, c1, c2, c3, c4⟩, hk1, hr1⟩ := foAt_head HT.out.1 hi
          obtain ⟨b2, o2, h2, k2, r2, ka2, kc2, kk2, rfl, -, hok2, hkc2, ⟨d0, d1, d2, d3, d4⟩, hk2, hr2⟩ := foAt_head HT.out.2.1 hi
          have hka2 := hka (by omega)
          have hkb2 := hkb (by omega)
          subst hka2
          subst hkb2
          have HBB : Hid (∀ o o', Below wr.heap.size wr ((wr.alloc o).alloc o')) := fun o o' => ((Below.refl _ _).alloc (Nat.le_refl _) o).alloc (by simp) o'
          have d0' := fun o => keepc ((Below.refl wr.heap.size wr).alloc (Nat.le_refl _) o) d0
          have d1' := fun o => keepc ((Below.refl wr.heap.size wr).alloc (Nat.le_refl _) o) d1
          have d2' := fun o => keepc ((Below.refl wr.heap.size wr).alloc (Nat.le_refl _) o) d2
          have d3' := fun o => keepc ((Below.refl wr.heap.size wr).alloc (Nat.le_refl _) o) d3
          have d4' := fun o => keepc ((Below.refl wr.heap.size wr).alloc (Nat.le_refl _) o) d4
          have HR : Hid (FoAt o S wr r1 (some ⟨g, off + (i + 1) * 5, none⟩) (n - (i + 1)) ∧ FoAt o' S' wr r2 (some ⟨g', off' + (i + 1) * 5, none⟩) (n - (i + 1)) ∧ szF k1 < N ∧ szF r1 ≤ N ∧ (sameH h1 h2 && (sameF k1 k2 && sameF r1 r2)) = D ∧ Below w.heap.size w wr) := by
            obtain ⟨_, _, h3, h4, h5⟩ := HT.out
            simp only [szF] at h3
            exact ⟨hr1, hr2, by omega, by omega, h4, h5⟩
          have HKd : Hid (∀ W, Below wr.heap.size wr W → Calls Try.prog 33 #[.slice ka1 kc1 kk1, .slice ka2 kc2 kk2] W fun e' w' => e' = .returned (.bool (sameF k1 k2)) ∧ Below W.heap.size W w') := fun W hW => IH.out k1 k2 ka1 ka2 kc1 kk1 kc2 kk2 W (hk1.below hW) (hk2.below hW) hkc1 hkc2 HR.out.2.2.1
          have HBw : Hid (∀ o o', Below w.heap.size w ((wr.alloc o).alloc o')) := fun o o' => HR.out.2.2.2.2.2.trans ((HBB.out o o').mono HR.out.2.2.2.2.2.size)
          clear HT hk1 hk2 hr1 hr2 hok1 hok2 hkc1 hkc2 IH d0 d1 d2 d3 d4
          by_cases e1 : h1.kind = h2.kind
          · have q1 : (h1.kind != h2.kind) = false := by simp [e1]
            by_cases e2 : h1.num = h2.num
            · have q2 : (h1.num != h2.num) = false := by simp [e2]
              by_cases e3 : h1.text = h2.text
              · have q3 : ((bs h1.text).toList == (bs h2.text).toList) = true := by rw [e3]; simp
                have HS : Hid (sameH h1 h2 = true) := by show sameH h1 h2 = true; simp [sameH, e1, e2, e3]
                clear e1 e2 e3
                cases hk : sameF k1 k2 with
                | true =>
                  rw [hk] at HKd HR
                  go_wp2_with fail
                  refine (HKd.out _ (HBB.out _ _)).mono ?_
                  rintro e' w3 ⟨rfl, hb3⟩
                  have HX : Hid (FoAt o S w3 r1 (some ⟨g, off + (i + 1) * 5, none⟩) (n - (i + 1)) ∧ FoAt o' S' w3 r2 (some ⟨g', off' + (i + 1) * 5, none⟩) (n - (i + 1)) ∧ szF r1 ≤ N ∧ sameF r1 r2 = D ∧ Below w.heap.size w w3) := by
                    obtain ⟨a1, a2, _, a4, a5, a6⟩ := HR.out
                    have hb4 := (HBB.out _ _).trans (hb3.mono (HBB.out _ _).size)
                    rw [HS.out] at a5
                    exact ⟨a1.below hb4, a2.below hb4, a4, by simpa using a5, a6.trans (hb4.mono a6.size)⟩
                  clear hb3 HR HKd HBB HBw
                  go_wp2_with fail
                  go_roundg (gk - 1)
                  case measure => omega
                  case rel => exact ⟨r1, r2, i + 1, by go_num, by omega, HX.out⟩
                | false =>
                  rw [hk] at HKd HR
                  go_wp2_with fail
                  refine (HKd.out _ (HBB.out _ _)).mono ?_
                  rintro e' w3 ⟨rfl, hb3⟩
                  have HX : Hid (D = false ∧ Below w.heap.size w w3) := ⟨by rw [← HR.out.2.2.2.2.1]; simp, (HBw.out _ _).trans (hb3.mono (HBw.out _ _).size)⟩
                  clear hb3 HR HKd HBB HBw
                  go_wp2
                  go_ret
                  exact ⟨ret_bool HX.out.1.symm, HX.out.2⟩
              · have q3 : ((bs h1.text).toList == (bs h2.text).toList) = false := by rw [bs_toList, bs_toList, beq_eq_false_iff_ne]; exact e3
                have HX : Hid (D = false) := by show D = false; rw [← HR.out.2.2.2.2.1]; simp [sameH, e3]
                clear e1 e2 e3 HR HKd HBB
                go_wp2
                go_ret
                exact ⟨ret_bool HX.out.symm, HBw.out _ _⟩
            · have q2 : (h1.num != h2.num) = true := by simpa using e2
              have HX : Hid (D = false) := by show D = false; rw [← HR.out.2.2.2.2.1]; simp [sameH, e2]
              clear e1 e2 HR HKd HBB
              go_wp2
              go_ret
              exact ⟨ret_bool HX.out.symm, HBw.out _ _⟩
          · have q1 : (h1.kind != h2.kind) = true := by simpa using e1
            have HX : Hid (D = false) := by show D = false; rw [← HR.out.2.2.2.2.1]; simp [sameH, e1]
            clear e1 HR HKd HBB
            go_wp2
            go_ret
            exact ⟨ret_bool HX.out.symm, HBw.out _ _⟩
        · have HX : Hid (D = true ∧ Below w.heap.size w wr) := by
            obtain ⟨a1, a2, _, a4, a5⟩ := HT.out
            rw [show n - i = 0 by omega] at a1 a2
            rw [foAt_end a1, foAt_end a2] at a4
            exact ⟨a4.symm, a5⟩
          clear HT
          go_wp2
          go_ret
          exact ⟨ret_bool HX.out.1.symm, HX.out.2⟩
    · have q0 : ((n : Int) != (m : Int)) = true := by simp; omega
      have HX : Hid (sameF F G = false) := sameF_len F G (by rw [← foAt_len hF, ← foAt_len hG]; exact hnm)
      clear hF hG hN hnm IH
      go_enter Try.func33, Try.ntmps33
      go_wp2
      go_ret
      exact ⟨ret_bool HX.out.symm, Below.refl _ _⟩
set_option maxRecDepth 20000 in
set_option maxHeartbeats 4000000 in
theorem same_calls (L M : List It) (ao bo : Option Addr) (n c m d : Nat) (w : World) (o o' : Bool) (S S' : Nat → Prop) (hF : ItsAt o S w L ao n) (hG : ItsAt o' S' w M bo m) (hn : n ≤ maxLen) (hm : m ≤ maxLen) :
    Calls Try.prog 16 #[.agg #[.slice ao n c], .agg #[.slice bo m d]] w fun e' w' => e' = .returned (.bool (sameI L M)) ∧ Below w.heap.size w w' := by
  have hm2 := hm
  have hn2 := hn
  unfold maxLen at hm2 hn2
  have hbx : Below w.heap.size w ((w.alloc (.cells #[.slice ao n c] 24)).alloc (.cells #[.slice bo m d] 24)) := ((Below.refl _ _).alloc (Nat.le_refl _) _).alloc (by simp) _
  have ha0 : ((w.alloc (.cells #[.slice ao n c] 24)).alloc (.cells #[.slice bo m d] 24)).heap[w.heap.size]? = some (.cells #[.slice ao n c] 24 (0, 0)) := heap_old (heap_alloc_new w _)
  have hb0 : ((w.alloc (.cells #[.slice ao n c] 24)).alloc (.cells #[.slice bo m d] 24)).heap[w.heap.size + 1]? = some (.cells #[.slice bo m d] 24 (0, 0)) := by
    have := heap_alloc_new (w.alloc (.cells #[.slice ao n c] 24)) (.cells #[.slice bo m d] 24)
    rwa [show (w.alloc (.cells #[.slice ao n c] 24)).heap.size = w.heap.size + 1 by simp] at this
  by_cases hnm : n = m
  · subst hnm
    have q0 : ((n : Int) != (n : Int)) = false := by simp
    obtain ⟨g, off, hka, hF'⟩ := itsAt_addr hF
    obtain ⟨g', off', hkb, hG'⟩ := itsAt_addr hG
    generalize hD : sameI L M = D at *
    have H0 : Hid (ItsAt o S ((w.alloc (.cells #[.slice ao n c] 24)).alloc (.cells #[.slice bo n d] 24)) L (some ⟨g, off + 0 * 4, none⟩) (n - 0) ∧ ItsAt o' S' ((w.alloc (.cells #[.slice ao n c] 24)).alloc (.cells #[.slice bo n d] 24)) M (some ⟨g', off' + 0 * 4, none⟩) (n - 0) ∧ sameI L M = D ∧ Below w.heap.size w ((w.alloc (.cells #[.slice ao n c] 24)).alloc (.cells #[.slice bo n d] 24)) ∧ ((w.alloc (.cells #[.slice ao n c] 24)).alloc (.cells #[.slice bo n d] 24)).heap[w.heap.size + 1]? = some (.cells #[.slice bo n d] 24 (0, 0))) := ⟨hF'.below hbx, hG'.below hbx, hD, hbx, hb0⟩
    clear hF hG hF' hG' hD ha0 hb0 hbx
    go_enter Try.func16, Try.ntmps16
    go_wp2_with fail
    go_loopg [18] n (fun k iv wr => ∃ (F' G' : List It) (i : Nat), iv = .int .i64 (i : Int) ∧ i + k = n ∧ Hid (ItsAt o S wr F' (some ⟨g, off + i * 4, none⟩) (n - i) ∧ ItsAt o' S' wr G' (some ⟨g', off' + i * 4, none⟩) (n - i) ∧ sameI F' G' = D ∧ Below w.heap.size w wr ∧ wr.heap[w.heap.size + 1]? = some (.cells #[.slice bo n d] 24 (0, 0))))
    case atStart => exact ⟨L, M, 0, rfl, by omega, H0.out⟩
    case round =>
      clear H0
      obtain ⟨F', G', i, rfl, hik, HT⟩ := hrel
      by_cases hi : i < n
      · obtain ⟨h1, r1, ka1, kc1, kk1, rfl, -, hok1, hkc1, ⟨c0, c1, c2, c3⟩, hk1, hr1⟩ := itsAt_head HT.out.1 hi
        obtain ⟨h2, r2, ka2, kc2, kk2, rfl, -, hok2, hkc2, ⟨d0, d1, d2, d3⟩, hk2, hr2⟩ := itsAt_head HT.out.2.1 hi
        have hka2 := hka (by omega)
        have hkb2 := hkb (by omega)
        subst hka2
        subst hkb2
        have HBB : Hid (∀ o o', Below wr.heap.size wr ((wr.alloc o).alloc o')) := fun o o' => ((Below.refl _ _).alloc (Nat.le_refl _) o).alloc (by simp) o'
        have d0' := fun o => keepc ((Below.refl wr.heap.size wr).alloc (Nat.le_refl _) o) d0
        have d1' := fun o => keepc ((Below.refl wr.heap.size wr).alloc (Nat.le_refl _) o) d1
        have d2' := fun o => keepc ((Below.refl wr.heap.size wr).alloc (Nat.le_refl _) o) d2
        have d3' := fun o => keepc ((Below.refl wr.heap.size wr).alloc (Nat.le_refl _) o) d3
        have hq' := fun o => keepc ((Below.refl wr.heap.size wr).alloc (Nat.le_refl _) o) (blk (i := 0) HT.out.2.2.2.2 rfl)
        have HR : Hid (ItsAt o S wr r1 (some ⟨g, off + (i + 1) * 4, none⟩) (n - (i + 1)) ∧ ItsAt o' S' wr r2 (some ⟨g', off' + (i + 1) * 4, none⟩) (n - (i + 1)) ∧ ((decide (h1.kind = h2.kind) && (decide (h1.name = h2.name) && sameF h1.args h2.args)) && sameI r1 r2) = D ∧ Below w.heap.size w wr ∧ wr.heap[w.heap.size + 1]? = some (.cells #[.slice (some ⟨g', off', none⟩) n d] 24 (0, 0))) := ⟨hr1, hr2, HT.out.2.2.1, HT.out.2.2.2.1, HT.out.2.2.2.2⟩
        have HKd : Hid (∀ W, Below wr.heap.size wr W → Calls Try.prog 33 #[.slice ka1 kc1 kk1, .slice ka2 kc2 kk2] W fun e' w' => e' = .returned (.bool (sameF h1.args h2.args)) ∧ Below W.heap.size W w') := fun W hW => sameAll_calls _ h1.args h2.args ka1 ka2 kc1 kk1 kc2 kk2 W o o' S S' (hk1.below hW) (hk2.below hW) hkc1 hkc2 (Nat.lt_succ_self _)
        have HBw : Hid (∀ o o', Below w.heap.size w ((wr.alloc o).alloc o')) := fun o o' => HR.out.2.2.2.1.trans ((HBB.out o o').mono HR.out.2.2.2.1.size)
        clear HT hk1 hk2 hr1 hr2 hok1 hok2 hkc1 hkc2 d0 d1 d2 d3
        by_cases e1 : h1.kind = h2.kind
        · have q1 : (h1.kind != h2.kind) = false := by simp [e1]
          by_cases e3 : h1.name = h2.name
          · have q3 : ((bs h1.name).toList == (bs h2.name).toList) = true := by rw [e3]; simp
            have HS : Hid (decide (h1.kind = h2.kind) = true ∧ decide (h1.name = h2.name) = true) := ⟨by simp [e1], by simp [e3]⟩
            clear e1 e3
            cases hk : sameF h1.args h2.args with
            | true =>
              rw [hk] at HKd HR
              go_wp2_with fail
              refine (HKd.out _ (HBB.out _ _)).mono ?_
              rintro e' w3 ⟨rfl, hb3⟩
              have HX : Hid (ItsAt o S w3 r1 (some ⟨g, off + (i + 1) * 4, none⟩) (n - (i + 1)) ∧ ItsAt o' S' w3 r2 (some ⟨g', off' + (i + 1) * 4, none⟩) (n - (i + 1)) ∧ sameI r1 r2 = D ∧ Below w.heap.size w w3 ∧ w3.heap[w.heap.size + 1]? = some (.cells #[.slice (some ⟨g', off', none⟩) n d] 24 (0, 0))) := by
                obtain ⟨a1, a2, a5, a6, a7⟩ := HR.out
                have hb4 := (HBB.out _ _).trans (hb3.mono (HBB.out _ _).size)
                rw [HS.out.1, HS.out.2] at a5
                exact ⟨a1.below hb4, a2.below hb4, by simpa using a5, a6.trans (hb4.mono a6.size), by rw [hb4.block _ (lt_block a7)]; exact a7⟩
              clear hb3 HR HKd HBB HBw
              go_wp2_with fail
              go_roundg (gk - 1)
              case measure => omega
              case rel => exact ⟨r1, r2, i + 1, by go_num, by omega, HX.out⟩
            | false =>
              rw [hk] at HKd HR
              go_wp2_with fail
              refine (HKd.out _ (HBB.out _ _)).mono ?_
              rintro e' w3 ⟨rfl, hb3⟩
              have HX : Hid (D = false ∧ Below w.heap.size w w3) := ⟨by rw [← HR.out.2.2.1]; simp, (HBw.out _ _).trans (hb3.mono (HBw.out _ _).size)⟩
              clear hb3 HR HKd HBB HBw
              go_wp2
              go_ret
              exact ⟨ret_bool HX.out.1.symm, HX.out.2⟩
          · have q3 : ((bs h1.name).toList == (bs h2.name).toList) = false := by rw [bs_toList, bs_toList, beq_eq_false_iff_ne]; exact e3
            have HX : Hid (D = false) := by show D = false; rw [← HR.out.2.2.1]; simp [e3]
            clear e1 e3 HR HKd HBB
            go_wp2
            go_ret
            exact ⟨ret_bool HX.out.symm, HBw.out _ _⟩
        · have q1 : (h1.kind != h2.kind) = true := by simpa using e1
          have HX : Hid (D = false) := by show D = false; rw [← HR.out.2.2.1]; simp [e1]
          clear e1 HR HKd HBB
          go_wp2
          go_ret
          exact ⟨ret_bool HX.out.symm, HBw.out _ _⟩
      · have HX : Hid (D = true ∧ Below w.heap.size w wr) := by
          obtain ⟨a1, a2, a4, a5, _⟩ := HT.out
          rw [show n - i = 0 by omega] at a1 a2
          rw [itsAt_end a1, itsAt_end a2] at a4
          exact ⟨a4.symm, a5⟩
        clear HT
        go_wp2
        go_ret
        exact ⟨ret_bool HX.out.1.symm, HX.out.2⟩
  · have q0 : ((n : Int) != (m : Int)) = true := by simp; omega
    have HX : Hid (sameI L M = false ∧ Below w.heap.size w ((w.alloc (.cells #[.slice ao n c] 24)).alloc (.cells #[.slice bo m d] 24))) := ⟨sameI_len L M (by rw [← itsAt_len hF, ← itsAt_len hG]; exact hnm), hbx⟩
    clear hF hG hnm hbx ha0 hb0
    go_enter Try.func16, Try.ntmps16
    go_wp2
    go_ret
    exact ⟨ret_bool HX.out.1.symm, HX.out.2⟩

end Go.Proofs.Ytnnmhmlebffacaa
