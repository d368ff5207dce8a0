/-
  A work is begun.
-/
import Derived.Test.YtolehoibpnenlabPsB
import Derived.Test.YtolehoibpnenlabDrw
import Derived.Test.YtolehoibpnenlabRcC
namespace Go.Proofs.Ytolehoibpnenlab
open Go.RowKit Go.Deep Go.Maps

/-- While the states' edges are cloned: the first i are. -/
structure Bg (w wr : World) (x : Rc) (da2 : Option Addr) (dn dc2 : Nat) (sa2 : Option Addr) (sn sc2 : Nat) (ta2 : Option Addr) (tn tc2 : Nat) (na : Option Addr) (nc : Nat) (sl sl' : List Sr) (i : Nat) : Prop where
  low : Below w.heap.size w wr
  box : wr.heap[w.heap.size]? = some (.cells #[.int .i64 x.letters, .slice da2 dn dc2, .slice sa2 sn sc2, .int .i64 x.beg, .int .i64 x.fin, .int .i64 x.front, .int .i64 x.back, .bool x.banded, .int .i64 x.lo, .int .i64 x.hi, .slice ta2 tn tc2] 26 (0, 0))
  defs : wr.ownsRow w.heap.size 34 4 (.slice da2 dn dc2) dn (dfRow x.defs)
  subst : wr.ownsRow w.heap.size 3 1 (.slice sa2 sn sc2) sn (itRow x.subst)
  nums : wr.ownsRow w.heap.size 3 1 (.slice na (valsB x.defs).1.length nc) (valsB x.defs).1.length (itRow (valsB x.defs).1)
  two : ∀ a, sa2 = some a → na ≠ some a
  states : wr.ownsRow w.heap.size 39 2 (.slice ta2 tn tc2) tn (srRow sl')
  len : sl'.length = tn
  done : Own2 wr w.heap.size (sl'.take i) (x.states.take i)
  rest : ∀ j, i ≤ j → sl'[j]? = sl[j]?
  apart : Dj (sl'.take i)
theorem srRow_set (l : List Sr) (i : Nat) (r : Sr) (s : Sr) (h : l[i]? = some s) (h1 : r.1 = s.1) : (srRow l).set (i * 2 + 1) (.slice r.2.1 r.2.2.1 r.2.2.2) = srRow (l.set i r) := by
  unfold srRow
  induction l generalizing i with
  | nil => simp at h
  | cons a t ih =>
    cases i with
    | zero =>
      simp at h; subst h
      rw [List.set_cons_zero, List.flatMap_cons, List.flatMap_cons]
      simp [srCells, h1]
    | succ i =>
      rw [List.set_cons_succ, List.flatMap_cons, List.flatMap_cons, ← ih i (by simpa using h), List.set_append]
      rw [if_neg (by simp [srCells]; omega)]
      congr 2
      simp [srCells]; omega
theorem own2_put {w : World} {base : Nat} {sl : List Sr} {l : List St} {i : Nat} {r : Sr} {s : St} (h : Own2 w base (sl.take i) (l.take i)) (hl : l[i]? = some s) (hs : i < sl.length) (h1 : r.1 = s.1) (h2 : r.2.2.1 = s.2.length) (h3 : s.2.length ≤ 100)
    (ho : w.ownsRow base 42 2 (.slice r.2.1 r.2.2.1 r.2.2.2) r.2.2.1 (pcRow s.2)) : Own2 w base ((sl.set i r).take (i + 1)) (l.take (i + 1)) := by
  have hli : i < l.length := (List.getElem?_eq_some_iff.1 hl).1
  refine ⟨by simp; omega, fun j r' s' hj hs' => ?_⟩
  by_cases hji : j < i
  · rw [List.getElem?_take_of_lt (by omega)] at hj hs'
    rw [List.getElem?_set_ne (by omega)] at hj
    exact h.2 j r' s' (by rw [List.getElem?_take_of_lt hji]; exact hj) (by rw [List.getElem?_take_of_lt hji]; exact hs')
  · have hj2 : j < i + 1 := by
      have := (List.getElem?_eq_some_iff.1 hs').1
      simp at this; omega
    obtain rfl : j = i := by omega
    rw [List.getElem?_take_of_lt (by omega)] at hj hs'
    rw [List.getElem?_set_self hs] at hj
    rw [hl] at hs'
    cases hj; cases hs'
    exact ⟨h1, h2, h3, ho⟩
theorem dj_put {sl : List Sr} {i : Nat} {r : Sr} (h : Dj (sl.take i)) (hn : ∀ (j : Nat) (r' : Sr) (a : Addr), j < i → sl[j]? = some r' → r'.2.1 = some a → r.2.1 ≠ some a) : Dj ((sl.set i r).take (i + 1)) := by
  intro j k r1 r2 a hjk h1 h2 ha
  have hj : j < i + 1 := by have := (List.getElem?_eq_some_iff.1 h1).1; simp at this; omega
  have hk : k < i + 1 := by have := (List.getElem?_eq_some_iff.1 h2).1; simp at this; omega
  rw [List.getElem?_take_of_lt (by omega)] at h1 h2
  by_cases e1 : j = i
  · subst e1
    rw [List.getElem?_set_ne (by omega)] at h2
    have hl : j < sl.length := by have := (List.getElem?_eq_some_iff.1 h1).1; simpa using this
    rw [List.getElem?_set_self hl] at h1
    cases h1
    intro hb
    exact hn k r2 a (by omega) h2 hb ha
  · rw [List.getElem?_set_ne (by omega)] at h1
    by_cases e2 : k = i
    · subst e2
      have hl : k < sl.length := by have := (List.getElem?_eq_some_iff.1 h2).1; simpa using this
      rw [List.getElem?_set_self hl] at h2
      cases h2
      exact hn j r1 a (by omega) h1 ha
    · rw [List.getElem?_set_ne (by omega)] at h2
      exact h j k r1 r2 a hjk (by rw [List.getElem?_take_of_lt (by omega)]; exact h1) (by rw [List.getElem?_take_of_lt (by omega)]; exact h2) ha

set_option maxRecDepth 20000 in
set_option maxHeartbeats 4000000 in
theorem begun_calls (x : Rc) (da : Option Addr) (dn dc : Nat) (sa : Option Addr) (sn sc : Nat) (ta : Option Addr) (tn tc : Nat) (w : World) (h : RcAt w x da dn sa sn ta tn) (hr : rightR x = true) :
    Calls Try.prog 17 #[.agg (rcCells x da dn dc sa sn sc ta tn tc)] w fun e w' => ∃ wb y, e = .returned (.pointer (some ⟨wb, 0, none⟩)) ∧ Below w.heap.size w w' ∧ WkAt w' w.heap.size wb x (valsB x.defs).1 y := by
  have HR : Hid (RcAt w x da dn sa sn ta tn) := h
  have HH : Hid (rightR x = true) := hr
  have HB0 : Hid (Rb w (rcCells x da dn dc sa sn sc ta tn tc) (w.alloc (.cells (rcCells x da dn dc sa sn sc ta tn tc) 26))) := Rb.start _ _
  have hdn : dn ≤ 5004 := by rw [← h.defs.length]; exact (right_defs hr).1
  have hsn : sn ≤ 400 := by rw [← h.subst.length]; exact (right_subst hr).1
  have htn : tn ≤ 9 := by rw [← h.states.length]; exact (right_states hr).1
  clear h hr
  unfold rcCells at *
  go_enter Try.func17, Try.ntmps17
  go_wp2_with fail
  refine (values_calls x.defs da dn dc _ (HR.out.defs.below HB0.out.low)).mono ?_
  rintro e w1 ⟨na, nc, rfl, hon, hb1⟩
  have HB1 : Hid (Rb w #[.int .i64 x.letters, .slice da dn dc, .slice sa sn sc, .int .i64 x.beg, .int .i64 x.fin, .int .i64 x.front, .int .i64 x.back, .bool x.banded, .int .i64 x.lo, .int .i64 x.hi, .slice ta tn tc] w1) := HB0.out.next hb1
  have HN : Hid (w1.ownsRow w.heap.size 3 1 (.slice na (valsB x.defs).1.length nc) (valsB x.defs).1.length (itRow (valsB x.defs).1)) := owned_base hon HB0.out.low.size
  clear hb1 hon HB0
  have HS1 : Hid (∀ W, Below w1.heap.size w1 W → W.cell? ⟨w.heap.size, 1, none⟩ = some (.slice da dn dc) ∧ W.cell? ⟨w.heap.size, 2, none⟩ = some (.slice sa sn sc) ∧ W.cell? ⟨w.heap.size, 10, none⟩ = some (.slice ta tn tc)) := fun W hW =>
    ⟨blk (HB1.out.next hW).box rfl, blk (HB1.out.next hW).box rfl, blk (HB1.out.next hW).box rfl⟩
  obtain ⟨sl, hsl1, hsl2⟩ := src_sts HR.out.states
  have HSL : Hid (SrcAt w ta tn 2 (srRow sl) ∧ Sl2 w sl x.states) := ⟨hsl1, hsl2⟩
  clear hsl1 hsl2
  generalize hvl : (valsB x.defs).1.length = vl at HN ⊢
  go_wp2_with fail
  have hs0 := HS1.out w1.drew (Below.refl _ _).drew
  refine wp_region_Y (fun j => [10, 12, 14].contains j) (fun W : World => W.cell? ⟨w.heap.size, 1, none⟩ = some (.slice da dn dc) ∧ W.cell? ⟨w.heap.size, 2, none⟩ = some (.slice sa sn sc) ∧ W.cell? ⟨w.heap.size, 10, none⟩ = some (.slice ta tn tc)) (by kernel_rfl) ?_
  refine wpAnyY_takeD (i := 0) 12 (v := .pointer (some ⟨w.heap.size, 1, none⟩)) rfl rfl (by kernel_rfl) (by kernel_rfl) (late_of (by kernel_rfl)) (by kernel_rfl) (by kernel_rfl) (fun _ _ _ h => h) hs0 (Or.inl ⟨by rfl, by (intro W hW; obtain ⟨s0, s1, s2⟩ := hW; go_simp)⟩) ?_
  simp only [Act.put, List.setIfInBounds_toArray, List.set_cons_succ, List.set_cons_zero]
  refine wpAnyY_takeD (i := 1) 13 (v := .slice da dn dc) rfl rfl (by kernel_rfl) (by kernel_rfl) (late_of (by kernel_rfl)) (by kernel_rfl) (by kernel_rfl) (fun _ _ _ h => h) hs0 (Or.inl ⟨by rfl, by (intro W hW; obtain ⟨s0, s1, s2⟩ := hW; go_simp)⟩) ?_
  simp only [Act.put, List.setIfInBounds_toArray, List.set_cons_succ, List.set_cons_zero]
  refine wpAnyY_takeD (i := 3) 15 (v := .pointer (some ⟨w.heap.size, 2, none⟩)) rfl rfl (by kernel_rfl) (by kernel_rfl) (late_of (by kernel_rfl)) (by kernel_rfl) (by kernel_rfl) (fun _ _ _ h => h) hs0 (Or.inl ⟨by rfl, by (intro W hW; obtain ⟨s0, s1, s2⟩ := hW; go_simp)⟩) ?_
  simp only [Act.put, List.setIfInBounds_toArray, List.set_cons_succ, List.set_cons_zero]
  refine wpAnyY_takeD (i := 4) 16 (v := .slice sa sn sc) rfl rfl (by kernel_rfl) (by kernel_rfl) (late_of (by kernel_rfl)) (by kernel_rfl) (by kernel_rfl) (fun _ _ _ h => h) hs0 (Or.inl ⟨by rfl, by (intro W hW; obtain ⟨s0, s1, s2⟩ := hW; go_simp)⟩) ?_
  simp only [Act.put, List.setIfInBounds_toArray, List.set_cons_succ, List.set_cons_zero]
  refine wpAnyY_takeD (i := 6) 18 (v := .pointer (some ⟨w.heap.size, 10, none⟩)) rfl rfl (by kernel_rfl) (by kernel_rfl) (late_of (by kernel_rfl)) (by kernel_rfl) (by kernel_rfl) (fun _ _ _ h => h) hs0 (Or.inl ⟨by rfl, by (intro W hW; obtain ⟨s0, s1, s2⟩ := hW; go_simp)⟩) ?_
  simp only [Act.put, List.setIfInBounds_toArray, List.set_cons_succ, List.set_cons_zero]
  refine wpAnyY_takeD (i := 7) 19 (v := .slice ta tn tc) rfl rfl (by kernel_rfl) (by kernel_rfl) (late_of (by kernel_rfl)) (by kernel_rfl) (by kernel_rfl) (fun _ _ _ h => h) hs0 (Or.inl ⟨by rfl, by (intro W hW; obtain ⟨s0, s1, s2⟩ := hW; go_simp)⟩) ?_
  simp only [Act.put, List.setIfInBounds_toArray, List.set_cons_succ, List.set_cons_zero]
  refine wpAnyY_one (i := 2) rfl (by kernel_rfl) (fun K hK => ?_)
  refine step_fn rfl 28 _ _ rfl Try.f28 Try.func28 (by kernel_rfl) (by kernel_rfl) #[.slice da dn dc] (by simp [Act.eval]) (cloneD_calls (dfRow x.defs) da dn dc _ (src_dfs (HR.out.defs.below (HB1.out.next (Below.refl _ _).drew).low)) (by omega)) ?_
  rintro e w2 ⟨da2, dc2, rfl, ho2, hb2⟩
  have HX2 : Hid (Rb w #[.int .i64 x.letters, .slice da dn dc, .slice sa sn sc, .int .i64 x.beg, .int .i64 x.fin, .int .i64 x.front, .int .i64 x.back, .bool x.banded, .int .i64 x.lo, .int .i64 x.hi, .slice ta tn tc] w2 ∧ Below w1.heap.size w1 w2 ∧ w2.ownsRow w1.heap.size 34 4 (.slice da2 dn dc2) dn (dfRow x.defs)) := ⟨HB1.out.next ((Below.refl _ _).drew.trans hb2), (Below.refl _ _).drew.trans hb2, ho2⟩
  clear ho2 hb2
  refine ⟨_, rfl, hK.out _ _ (fun _ _ => HS1.out _ HX2.out.2.1) ?_⟩
  clear hK K
  simp only [Act.put]
  refine wpAnyY_pure (i := 9) 21 (v := .pointer (some ⟨w.heap.size, 1, none⟩)) rfl rfl (by kernel_rfl) (by kernel_rfl) (by kernel_rfl) (fun _ _ _ h => h) (Or.inl ⟨by rfl, by (intro W _; go_simp)⟩) ?_
  simp only [Act.put, List.setIfInBounds_toArray]
  refine wpAnyY_one (i := 5) rfl (by kernel_rfl) (fun K hK => ?_)
  refine step_fn rfl 29 _ _ rfl Try.f29 Try.func29 (by kernel_rfl) (by kernel_rfl) #[.slice sa sn sc] (by simp [Act.eval]) (cloneI_calls (itRow x.subst) sa sn sc _ (src_ints (HR.out.subst.below HX2.out.1.low)) (by omega)) ?_
  rintro e w3 ⟨sa2, sc2, rfl, ho3, hb3⟩
  have HX3 : Hid (Rb w #[.int .i64 x.letters, .slice da dn dc, .slice sa sn sc, .int .i64 x.beg, .int .i64 x.fin, .int .i64 x.front, .int .i64 x.back, .bool x.banded, .int .i64 x.lo, .int .i64 x.hi, .slice ta tn tc] w3 ∧ Below w1.heap.size w1 w3 ∧ w3.ownsRow w1.heap.size 34 4 (.slice da2 dn dc2) dn (dfRow x.defs) ∧ w3.ownsRow w1.heap.size 3 1 (.slice sa2 sn sc2) sn (itRow x.subst)) := ⟨HX2.out.1.next hb3, HX2.out.2.1.trans (hb3.mono HX2.out.2.1.size), owned_below HX2.out.2.2 hb3, owned_base ho3 HX2.out.2.1.size⟩
  clear ho3 hb3 HX2
  refine ⟨_, rfl, hK.out _ _ (fun _ _ => HS1.out _ HX3.out.2.1) ?_⟩
  clear hK K
  simp only [Act.put]
  refine wpAnyY_one (i := 8) rfl (by kernel_rfl) (fun K hK => ?_)
  refine step_fn rfl 30 _ _ rfl Try.f30 Try.func30 (by kernel_rfl) (by kernel_rfl) #[.slice ta tn tc] (by simp [Act.eval]) (cloneS_calls (srRow sl) ta tn tc _ (HSL.out.1.below HX3.out.1.low) (by omega)) ?_
  rintro e w4 ⟨ta2, tc2, rfl, ho4, hb4⟩
  have HX4 : Hid (Rb w #[.int .i64 x.letters, .slice da dn dc, .slice sa sn sc, .int .i64 x.beg, .int .i64 x.fin, .int .i64 x.front, .int .i64 x.back, .bool x.banded, .int .i64 x.lo, .int .i64 x.hi, .slice ta tn tc] w4 ∧ Below w1.heap.size w1 w4 ∧ w4.ownsRow w1.heap.size 34 4 (.slice da2 dn dc2) dn (dfRow x.defs) ∧ w4.ownsRow w1.heap.size 3 1 (.slice sa2 sn sc2) sn (itRow x.subst) ∧ w4.ownsRow w1.heap.size 39 2 (.slice ta2 tn tc2) tn (srRow sl)) := ⟨HX3.out.1.next hb4, HX3.out.2.1.trans (hb4.mono HX3.out.2.1.size), owned_below HX3.out.2.2.1 hb4, owned_below HX3.out.2.2.2 hb4, owned_base ho4 HX3.out.2.1.size⟩
  clear ho4 hb4 HX3
  refine ⟨_, rfl, hK.out _ _ (fun _ _ => HS1.out _ HX4.out.2.1) ?_⟩
  clear hK K
  simp only [Act.put]
  obtain ⟨c1, c2, c10⟩ := HS1.out _ HX4.out.2.1
  have ff : ∀ i, w4.frozen? ⟨w.heap.size, i, none⟩ = false := fun i => frozen_of_row w4 _ i _ _ HX4.out.1.box
  clear hs0
  refine wpAnyY_one (i := 10) rfl (by kernel_rfl) (fun K hK => ?_)
  go_simp
  refine hK.out _ _ (fun h => absurd h (by decide)) ?_
  clear hK K
  refine wpAnyY_one (i := 11) rfl (by kernel_rfl) (fun K hK => ?_)
  go_simp
  refine hK.out _ _ (fun _ h => h) ?_
  clear hK K
  refine wpAnyY_one (i := 12) rfl (by kernel_rfl) (fun K hK => ?_)
  go_simp
  refine hK.out _ _ (fun h => absurd h (by decide)) ?_
  clear hK K
  refine wpAnyY_one (i := 13) rfl (by kernel_rfl) (fun K hK => ?_)
  go_simp
  refine hK.out _ _ (fun _ h => h) ?_
  clear hK K
  refine wpAnyY_one (i := 14) rfl (by kernel_rfl) (fun K hK => ?_)
  go_simp
  refine hK.out _ _ (fun h => absurd h (by decide)) ?_
  clear hK K
  refine wpAnyY_done (by kernel_rfl) ?_ _
  clear c1 c2 c10 ff
  obtain ⟨w5, hw5⟩ : ∃ w5, w5 = ((w4.setCell ⟨w.heap.size, 1, none⟩ (.slice da2 dn dc2)).setCell ⟨w.heap.size, 2, none⟩ (.slice sa2 sn sc2)).setCell ⟨w.heap.size, 10, none⟩ (.slice ta2 tn tc2) := ⟨_, rfl⟩
  rw [← hw5]
  have HG : Hid (Bg w w5 x da2 dn dc2 sa2 sn sc2 ta2 tn tc2 na nc sl sl 0) := by
    have hw1 : w.heap.size < w1.heap.size := lt_block HB1.out.box
    have hg : w4.grownBy w5 (some w.heap.size) := by rw [hw5]; exact grown_trans (grown_trans (grown_set _ _ _ _) (grown_set _ _ _ _)) (grown_set _ _ _ _)
    have hne : ∀ {e : TypeId} {size : Nat} {v : Value} {n : Nat} {xs : List Value}, w4.ownsRow w1.heap.size e size v n xs → w5.ownsRow w.heap.size e size v n xs := fun ho =>
      owned_base (own_apart ho hg (fun e => by
        rcases ho.2 with ⟨hv, _⟩ | ⟨g', cap', cur, hv, hb', hg', _⟩
        · rw [hv] at e; cases e
        · rw [hv] at e; simp [Value.ownBlock] at e; omega)) (Nat.le_of_lt hw1)
    refine ⟨?_, ?_, hne HX4.out.2.2.1, hne HX4.out.2.2.2.1, ?_, ?_, hne HX4.out.2.2.2.2, ?_, ⟨rfl, fun i r s hi => by simp at hi⟩, fun _ _ => rfl, fun i j r r' a hij hi => by simp at hi⟩
    · exact HX4.out.1.low.grown hg HX4.out.1.low.size (fun k hk => by cases hk; exact Nat.le_refl _)
    · rw [hw5]; exact heap_set _ (heap_set _ (heap_set _ HX4.out.1.box))
    · rw [hvl]
      have hx := owned_below HN.out HX4.out.2.1
      exact own_kind hx HX4.out.1.box (by decide) hg
    · intro a ha hna
      subst hna
      rcases HX4.out.2.2.2.1.2 with ⟨hv, _⟩ | ⟨g', cap', cur, hv, hb', hg', _⟩
      · cases hv; cases ha
      · cases hv; cases ha
        rcases HN.out.2 with ⟨hv, _⟩ | ⟨g2, cap2, cur2, hv2, hb2, hg2, _⟩
        · cases hv
        · cases hv2
          have := lt_block hg2
          omega
    · have h1 := HSL.out.2.1
      have h2 := HR.out.states.length
      omega
  clear hw5 HX4 HB1 HN HS1
  have b10 : w5.cell? ⟨w.heap.size, 10, none⟩ = some (.slice ta2 tn tc2) := blk HG.out.box rfl
  go_wp2
  go_loopg [27] tn (fun q iv wr => ∃ (i : Nat) (sl' : List Sr), i + q = tn ∧ iv = .int .i64 i ∧ Hid (Bg w wr x da2 dn dc2 sa2 sn sc2 ta2 tn tc2 na nc sl sl' i))
  case atStart => exact ⟨0, sl, by omega, rfl, HG.out⟩
  case round =>
    clear HG b10
    obtain ⟨i, sl', hiq, rfl, HG⟩ := hrel
    by_cases hlt : i < tn
    · obtain ⟨tg, htc, ht, hbt, _, _, _⟩ := owned_some HG.out.states (by omega)
      obtain ⟨rfl, rfl⟩ : ta2 = some ⟨tg, 0, none⟩ ∧ htc = tc2 := by cases ht; exact ⟨rfl, rfl⟩
      clear ht
      obtain ⟨rr, hrr⟩ : ∃ rr, sl'[i]? = some rr := ⟨sl'[i]'(by rw [HG.out.len]; exact hlt), List.getElem?_eq_getElem _⟩
      obtain ⟨ss, hss⟩ : ∃ ss, x.states[i]? = some ss := ⟨x.states[i]'(by rw [HR.out.states.length]; exact hlt), List.getElem?_eq_getElem _⟩
      obtain ⟨kd, ea, en, ec⟩ := rr
      have HE : Hid (sl'[i]? = some (kd, ea, en, ec) ∧ x.states[i]? = some ss ∧ kd = ss.1 ∧ PcsAt w ea en ss.2 ∧ ss.2.length ≤ 100) := by
        have q := HSL.out.2.2 i (kd, ea, en, ec) ss (by rw [← HG.out.rest i (Nat.le_refl _)]; exact hrr) hss
        exact ⟨hrr, hss, q.1, q.2, right_edges HH.out ss (List.mem_of_getElem? hss)⟩
      have hen : en ≤ 100 := by rw [← HE.out.2.2.2.1.length]; exact HE.out.2.2.2.2
      clear hrr hss
      have HS1 : Hid (∀ W, Below wr.heap.size wr W → W.cell? ⟨w.heap.size, 10, none⟩ = some (.slice (some ⟨tg, 0, none⟩) tn htc) ∧ W.cell? ⟨tg, i * 2 + 1, none⟩ = some (.slice ea en ec)) := fun W hW => by
        refine ⟨blk (by rw [hW.block _ (lt_block HG.out.box)]; exact HG.out.box) rfl, ?_⟩
        exact (owned_cells (owned_below HG.out.states hW) (i * 2 + 1) _ (flat_get (f := srCells) (fun _ => rfl) sl' i _ 1 _ HE.out.1 rfl)).1
      have htn2 : (i : Int) < (tn : Int) := by omega
      go_wp2_with fail
      have hs0 := HS1.out wr.drew (Below.refl _ _).drew
      refine wp_region_Y (fun j => [12].contains j) (fun W : World => W.cell? ⟨w.heap.size, 10, none⟩ = some (.slice (some ⟨tg, 0, none⟩) tn htc) ∧ W.cell? ⟨tg, i * 2 + 1, none⟩ = some (.slice ea en ec)) (by kernel_rfl) ?_
      refine wpAnyY_takeD (i := 0) 30 (v := .pointer (some ⟨w.heap.size, 10, none⟩)) rfl rfl (by kernel_rfl) (by kernel_rfl) (late_of (by kernel_rfl)) (by kernel_rfl) (by kernel_rfl) (fun _ _ _ h => h) hs0 (Or.inl ⟨by rfl, by (intro W hW; obtain ⟨s0, s1⟩ := hW; go_simp)⟩) ?_
      simp only [Act.put, List.setIfInBounds_toArray, List.set_cons_succ, List.set_cons_zero]
      refine wpAnyY_takeD (i := 1) 31 (v := .slice (some ⟨tg, 0, none⟩) tn htc) rfl rfl (by kernel_rfl) (by kernel_rfl) (late_of (by kernel_rfl)) (by kernel_rfl) (by kernel_rfl) (fun _ _ _ h => h) hs0 (Or.inl ⟨by rfl, by (intro W hW; obtain ⟨s0, s1⟩ := hW; go_simp)⟩) ?_
      simp only [Act.put, List.setIfInBounds_toArray, List.set_cons_succ, List.set_cons_zero]
      refine wpAnyY_takeD (i := 2) 32 (v := .int .i64 (i : Int)) rfl rfl (by kernel_rfl) (by kernel_rfl) (late_of (by kernel_rfl)) (by kernel_rfl) (by kernel_rfl) (fun _ _ _ h => h) hs0 (Or.inl ⟨by rfl, by (intro W hW; obtain ⟨s0, s1⟩ := hW; go_simp)⟩) ?_
      simp only [Act.put, List.setIfInBounds_toArray, List.set_cons_succ, List.set_cons_zero]
      refine wpAnyY_takeD (i := 3) 33 (v := .pointer (some ⟨w.heap.size, 10, none⟩)) rfl rfl (by kernel_rfl) (by kernel_rfl) (late_of (by kernel_rfl)) (by kernel_rfl) (by kernel_rfl) (fun _ _ _ h => h) hs0 (Or.inl ⟨by rfl, by (intro W hW; obtain ⟨s0, s1⟩ := hW; go_simp)⟩) ?_
      simp only [Act.put, List.setIfInBounds_toArray, List.set_cons_succ, List.set_cons_zero]
      refine wpAnyY_takeD (i := 4) 34 (v := .slice (some ⟨tg, 0, none⟩) tn htc) rfl rfl (by kernel_rfl) (by kernel_rfl) (late_of (by kernel_rfl)) (by kernel_rfl) (by kernel_rfl) (fun _ _ _ h => h) hs0 (Or.inl ⟨by rfl, by (intro W hW; obtain ⟨s0, s1⟩ := hW; go_simp)⟩) ?_
      simp only [Act.put, List.setIfInBounds_toArray, List.set_cons_succ, List.set_cons_zero]
      refine wpAnyY_takeD (i := 5) 35 (v := .int .i64 (i : Int)) rfl rfl (by kernel_rfl) (by kernel_rfl) (late_of (by kernel_rfl)) (by kernel_rfl) (by kernel_rfl) (fun _ _ _ h => h) hs0 (Or.inl ⟨by rfl, by (intro W hW; obtain ⟨s0, s1⟩ := hW; go_simp)⟩) ?_
      simp only [Act.put, List.setIfInBounds_toArray, List.set_cons_succ, List.set_cons_zero]
      refine wpAnyY_takeD (i := 6) 36 (v := .pointer (some ⟨tg, i * 2, none⟩)) rfl rfl (by kernel_rfl) (by kernel_rfl) (late_of (by kernel_rfl)) (by kernel_rfl) (by kernel_rfl) (fun _ _ _ h => h) hs0 (Or.inl ⟨by rfl, by (intro W hW; obtain ⟨s0, s1⟩ := hW; go_simp)⟩) ?_
      simp only [Act.put, List.setIfInBounds_toArray, List.set_cons_succ, List.set_cons_zero]
      refine wpAnyY_takeD (i := 7) 37 (v := .pointer (some ⟨tg, i * 2 + 1, none⟩)) rfl rfl (by kernel_rfl) (by kernel_rfl) (late_of (by kernel_rfl)) (by kernel_rfl) (by kernel_rfl) (fun _ _ _ h => h) hs0 (Or.inl ⟨by rfl, by (intro W hW; obtain ⟨s0, s1⟩ := hW; go_simp)⟩) ?_
      simp only [Act.put, List.setIfInBounds_toArray, List.set_cons_succ, List.set_cons_zero]
      refine wpAnyY_takeD (i := 8) 38 (v := .slice ea en ec) rfl rfl (by kernel_rfl) (by kernel_rfl) (late_of (by kernel_rfl)) (by kernel_rfl) (by kernel_rfl) (fun _ _ _ h => h) hs0 (Or.inl ⟨by rfl, by (intro W hW; obtain ⟨s0, s1⟩ := hW; go_simp)⟩) ?_
      simp only [Act.put, List.setIfInBounds_toArray, List.set_cons_succ, List.set_cons_zero]
      refine wpAnyY_one (i := 9) rfl (by kernel_rfl) (fun K hK => ?_)
      refine step_fn rfl 31 _ _ rfl Try.f31 Try.func31 (by kernel_rfl) (by kernel_rfl) #[.slice ea en ec] (by simp [Act.eval]) (cloneE_calls (pcRow ss.2) ea en ec _ (src_pcs (HE.out.2.2.2.1.below (HG.out.low.trans ((Below.refl _ _).drew.mono HG.out.low.size)))) (by omega)) ?_
      rintro e w2 ⟨ea2, ec2, rfl, ho2, hb2⟩
      have HX : Hid (Below wr.heap.size wr w2 ∧ w2.ownsRow wr.heap.size 42 2 (.slice ea2 en ec2) en (pcRow ss.2)) := ⟨(Below.refl _ _).drew.trans hb2, ho2⟩
      clear ho2 hb2
      refine ⟨_, rfl, hK.out _ _ (fun _ _ => HS1.out _ HX.out.1) ?_⟩
      clear hK K
      simp only [Act.put]
      obtain ⟨c10, ce⟩ := HS1.out _ HX.out.1
      have ff : w2.frozen? ⟨tg, i * 2 + 1, none⟩ = false := (owned_cells (owned_below HG.out.states HX.out.1) (i * 2 + 1) _ (flat_get (f := srCells) (fun _ => rfl) sl' i _ 1 _ HE.out.1 rfl)).2
      clear hs0
      refine wpAnyY_one (i := 10) rfl (by kernel_rfl) (fun K hK => ?_)
      go_simp
      refine hK.out _ _ (fun _ h => h) ?_
      clear hK K
      refine wpAnyY_one (i := 11) rfl (by kernel_rfl) (fun K hK => ?_)
      go_simp
      refine hK.out _ _ (fun _ h => h) ?_
      clear hK K
      refine wpAnyY_one (i := 12) rfl (by kernel_rfl) (fun K hK => ?_)
      go_simp
      refine hK.out _ _ (fun h => absurd h (by decide)) ?_
      clear hK K
      refine wpAnyY_done (by kernel_rfl) ?_ _
      clear c10 ce ff
      have HN : Hid (Bg w (w2.setCell ⟨tg, i * 2 + 1, none⟩ (.slice ea2 en ec2)) x da2 dn dc2 sa2 sn sc2 (some ⟨tg, 0, none⟩) tn htc na nc sl (sl'.set i (kd, ea2, en, ec2)) (i + 1)) := by
        have hg := grown_set w2 tg (i * 2 + 1) (.slice ea2 en ec2)
        have hB := HX.out.1
        have hst := owned_below HG.out.states hB
        obtain ⟨cst, hcst⟩ : ∃ cst, w2.heap[tg]? = some (.cells cst 39 (0, 0)) := by
          rcases hst.2 with ⟨hv, _⟩ | ⟨g', cap', cur, hv, hb', hg', _⟩
          · cases hv
          · cases hv; exact ⟨_, hg'⟩
        have hlow : Below w.heap.size w w2 := HG.out.low.trans (hB.mono HG.out.low.size)
        refine ⟨hlow.grown hg hlow.size (fun k hk => by cases hk; exact hbt), ?_, own_kind (owned_below HG.out.defs hB) hcst (by decide) hg, own_kind (owned_below HG.out.subst hB) hcst (by decide) hg, own_kind (owned_below HG.out.nums hB) hcst (by decide) hg, HG.out.two, ?_, by rw [List.length_set]; exact HG.out.len, ?_, ?_, ?_⟩
        · have hbx : w2.heap[w.heap.size]? = _ := (hB.block _ (lt_block HG.out.box)).trans HG.out.box
          rw [hg.block _ (lt_block hbx) (fun e => by cases e; rw [hcst] at hbx; cases hbx)]
          exact hbx
        · have := own_set hst (i * 2 + 1) (.slice ea2 en ec2)
          rw [srRow_set sl' i (kd, ea2, en, ec2) _ HE.out.1 rfl] at this
          exact this
        · refine own2_put ?_ HE.out.2.1 (by rw [HG.out.len]; exact hlt) HE.out.2.2.1 HE.out.2.2.2.1.length.symm HE.out.2.2.2.2 (own_kind (owned_base HX.out.2 HG.out.low.size) hcst (by decide) hg)
          have hd := HG.out.done.below hB
          exact ⟨hd.1, fun j r s hj hs => ⟨(hd.2 j r s hj hs).1, (hd.2 j r s hj hs).2.1, (hd.2 j r s hj hs).2.2.1, own_kind (hd.2 j r s hj hs).2.2.2 hcst (by decide) hg⟩⟩
        · intro j hj
          rw [List.getElem?_set_ne (by omega)]
          exact HG.out.rest j (by omega)
        · refine dj_put HG.out.apart (fun j r' a hj hr' ha hb => ?_)
          have hjs : j < x.states.length := by have := HR.out.states.length; omega
          have hd := (HG.out.done.2 j r' x.states[j] (by rw [List.getElem?_take_of_lt hj]; exact hr') (by rw [List.getElem?_take_of_lt hj]; exact List.getElem?_eq_getElem hjs)).2.2.2
          rcases hd.2 with ⟨hv, _⟩ | ⟨g1, cap1, cur1, hv1, _, hg1, _⟩
          · rw [ha] at hv; cases hv
          · rw [ha] at hv1; cases hv1
            rcases HX.out.2.2 with ⟨hv, _⟩ | ⟨g2, cap2, cur2, hv2, hb2, _⟩
            · cases hv; cases hb
            · cases hv2; cases hb
              have := lt_block hg1
              omega
      clear HX HG HE HS1 hen
      go_wp2
      go_roundg (gk - 1)
      case measure => omega
      case rel => exact ⟨i + 1, _, by omega, by go_num, HN.out⟩
    · have hit : i = tn := by omega
      rw [hit] at HG
      clear hit
      have b : wr.heap[w.heap.size]? = some (.cells #[.int .i64 x.letters, .slice da2 dn dc2, .slice sa2 sn sc2, .int .i64 x.beg, .int .i64 x.fin, .int .i64 x.front, .int .i64 x.back, .bool x.banded, .int .i64 x.lo, .int .i64 x.hi, .slice ta2 tn tc2] 26 (0, 0)) := HG.out.box
      have b0 : wr.cell? ⟨w.heap.size, 0, none⟩ = some (.int .i64 x.letters) := blk b rfl
      have b1 : wr.cell? ⟨w.heap.size, 1, none⟩ = some (.slice da2 dn dc2) := blk b rfl
      have b2 : wr.cell? ⟨w.heap.size, 2, none⟩ = some (.slice sa2 sn sc2) := blk b rfl
      have b3 : wr.cell? ⟨w.heap.size, 3, none⟩ = some (.int .i64 x.beg) := blk b rfl
      have b4 : wr.cell? ⟨w.heap.size, 4, none⟩ = some (.int .i64 x.fin) := blk b rfl
      have b5 : wr.cell? ⟨w.heap.size, 5, none⟩ = some (.int .i64 x.front) := blk b rfl
      have b6 : wr.cell? ⟨w.heap.size, 6, none⟩ = some (.int .i64 x.back) := blk b rfl
      have b7 : wr.cell? ⟨w.heap.size, 7, none⟩ = some (.bool x.banded) := blk b rfl
      have b8 : wr.cell? ⟨w.heap.size, 8, none⟩ = some (.int .i64 x.lo) := blk b rfl
      have b9 : wr.cell? ⟨w.heap.size, 9, none⟩ = some (.int .i64 x.hi) := blk b rfl
      have b10 : wr.cell? ⟨w.heap.size, 10, none⟩ = some (.slice ta2 tn tc2) := blk b rfl
      clear b
      go_wp2
      go_ret
      have hl1 := HR.out.defs.length
      have hl2 := HR.out.subst.length
      have hl3 := HR.out.states.length
      refine ⟨wr.heap.size, ⟨da2, dc2, sa2, sc2, ta2, tc2, na, nc, sl'⟩, rfl, HG.out.low.alloc HG.out.low.size _, ?_⟩
      have hB : ∀ o, Below wr.heap.size wr (wr.alloc o) := fun o => (Below.refl _ _).alloc (Nat.le_refl _) o
      refine ⟨HG.out.low.size, ?_, ?_, ?_, owned_below HG.out.nums (hB _), ?_, ?_, ?_, HG.out.two⟩
      · rw [heap_alloc_new]; unfold wkCells; simp only; rw [hl1, hl2, hl3, hvl]
      · rw [hl1]; exact owned_below HG.out.defs (hB _)
      · rw [hl2]; exact owned_below HG.out.subst (hB _)
      · rw [hl3]; exact owned_below HG.out.states (hB _)
      · have hd := HG.out.done
        rw [List.take_of_length_le (by rw [HG.out.len]; exact Nat.le_refl _), List.take_of_length_le (by omega)] at hd
        exact hd.below (hB _)
      · have hd := HG.out.apart
        rw [List.take_of_length_le (by rw [HG.out.len]; exact Nat.le_refl _)] at hd
        exact hd
end Go.Proofs.Ytolehoibpnenlab
