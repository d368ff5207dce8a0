/-
  path.All.
-/
import Derived.Test.YtegndeefddlccaaPaA
import Derived.Test.YtegndeefddlccaaPkD
import Derived.Shelf.Abstract
import Derived.Shelf.RegionOpen
import Derived.WalkKit
import Derived.OwnWalkIn
import Derived.TacticsInMore
import Derived.LoopNIn
import Derived.LoopIn
namespace Go.Proofs.Ytegndeefddlccaa
open Go.RowKit Go.Shelf
attribute [local go_sem] Oper.semAt_some

theorem new_three (W : World) (x : Pt) (j : Nat) (u : Value) (h : (ptCells x)[j]? = some u) : (W.alloc (.cells #[.int .i64 x.i, .int .i64 x.j, .string (bs x.cols)] 33)).cell? ((⟨W.heap.size, 0, none⟩ : Addr).add j) = some u := by
  have hj : j = 0 ∨ j = 1 ∨ j = 2 := by have := (List.getElem?_eq_some_iff.1 h).1; simp [ptCells] at this; omega
  have hb : (W.alloc (.cells #[.int .i64 x.i, .int .i64 x.j, .string (bs x.cols)] 33)).heap[W.heap.size]? = some (.cells #[.int .i64 x.i, .int .i64 x.j, .string (bs x.cols)] 33 (0, 0)) := hp_at rfl
  rcases hj with rfl | rfl | rfl
  · simp [ptCells] at h; subst h; exact cell_block hb 0 _ rfl
  · simp [ptCells] at h; subst h; exact cell_block hb 1 _ rfl
  · simp [ptCells] at h; subst h; exact cell_block hb 2 _ rfl
theorem owned_shape {w : World} {base : Nat} {e : TypeId} {size : Nat} {v : Value} {n : Nat} {xs : List Value} (h : w.ownsRow base e size v n xs) : ∃ ao cap, v = .slice ao n cap := by
  rcases h.2 with ⟨rfl, rfl⟩ | ⟨g, cap, cur, rfl, _⟩
  · exact ⟨none, 0, rfl⟩
  · exact ⟨_, cap, rfl⟩
def AllPost (m : Md) (xs ys : List Int) (w : World) (e : Ending) (w' : World) : Prop :=
  ∃ v, e = .returned (.tuple #[v, .int .i64 (shE m xs ys)]) ∧ Below w.heap.size w w' ∧ (shE m xs ys = 0 → w'.ownsRow w.heap.size 33 3 v (pathsB m xs.length ys.length).length (ptRow (pathsB m xs.length ys.length))) ∧ (shE m xs ys ≠ 0 → v = .slice none 0 0)
theorem shE_len {m : Md} {xs ys : List Int} (h : shE m xs ys = 0) : xs.length + ys.length ≤ 8 := by
  unfold shE at h
  split at h
  · split at h
    · assumption
    · cases h
  · exact absurd h (by assumption)

set_option maxRecDepth 100000 in
set_option maxHeartbeats 4000000 in
theorem all_in (m : Md) (sa : Option Addr) (sn sc : Nat) (ga : Option Addr) (gn gc : Nat) (xa : Option Addr) (xn xc : Nat) (ya : Option Addr) (yn yc : Nat) (xs ys : List Int) (w : World) (h : MdAt w m sa sn ga gn) (hx : IntsAt w xa xn xs) (hy : IntsAt w ya yn ys) :
    CallsIn Fence.wide 0 Try.prog 16 #[.agg (mdCells m sa sn sc ga gn gc), .slice xa xn xc, .slice ya yn yc] w fun e w' => AllPost m xs ys w e w' := by
  have hxl := hx.length
  have hyl := hy.length
  have hgl := h.gaps.length
  have hbl := bl1 w (.cells (mdCells m sa sn sc ga gn gc) 31)
  have hbm : (w.alloc (.cells (mdCells m sa sn sc ga gn gc) 31)).heap[w.heap.size]? = some (.cells (mdCells m sa sn sc ga gn gc) 31 (0, 0)) := hp_at rfl
  have HS := shortField_calls m sa sn sc ga gn gc xa xn xc ya yn yc xs ys _ (h.below hbl) (hx.below hbl) (hy.below hbl)
  generalize hE : shE m xs ys = E
  have HS2 := HS.mono (R' := fun e w' => e = .returned (.tuple #[.agg (if E = 0 then fdCells m sa sn sc ga gn gc xa xn xc ya yn yc else fdZero), .int .i64 E]) ∧ Below (w.alloc (.cells (mdCells m sa sn sc ga gn gc) 31)).heap.size (w.alloc (.cells (mdCells m sa sn sc ga gn gc) 31)) w') (fun e w' hh => by unfold ShPost at hh; rw [hE] at hh; exact hh)
  clear HS
  rw [show mdCells m sa sn sc ga gn gc = #[.int .i64 m.letters, .slice sa sn sc, .slice ga gn gc, .int .i64 m.mode, .bool m.banded, .int .i64 m.lo, .int .i64 m.hi, .int .i64 m.front, .int .i64 m.back, .int .i64 m.least] from rfl] at hbl hbm HS2 ⊢
  have b0 := cell_block hbm 0 (.int .i64 m.letters) rfl
  have b1 := cell_block hbm 1 (.slice sa sn sc) rfl
  have b2 := cell_block hbm 2 (.slice ga gn gc) rfl
  have b3 := cell_block hbm 3 (.int .i64 m.mode) rfl
  have b4 := cell_block hbm 4 (.bool m.banded) rfl
  have b5 := cell_block hbm 5 (.int .i64 m.lo) rfl
  have b6 := cell_block hbm 6 (.int .i64 m.hi) rfl
  have b7 := cell_block hbm 7 (.int .i64 m.front) rfl
  have b8 := cell_block hbm 8 (.int .i64 m.back) rfl
  have b9 := cell_block hbm 9 (.int .i64 m.least) rfl
  refine callsIn_of_wp_marks Try.func16 rfl trivial ?_ rfl
  simp only [Try.ntmps16, List.size_toArray, List.length_cons, List.length_nil, Nat.reduceAdd, Nat.reduceSub, Array.replicate_succ, Array.replicate_zero, List.push_toArray, List.append_toArray, List.nil_append, List.cons_append]
  by_cases hE0 : E = 0
  · rw [if_pos hE0, show fdCells m sa sn sc ga gn gc xa xn xc ya yn yc = #[.int .i64 m.letters, .slice sa sn sc, .slice ga gn gc, .int .i64 m.mode, .bool m.banded, .int .i64 m.lo, .int .i64 m.hi, .int .i64 m.front, .int .i64 m.back, .int .i64 m.least, .slice xa xn xc, .slice ya yn yc] from rfl] at HS2
    subst hE0
    have hsl := shE_len hE
    gi_wp2_with (first
      | (refine ⟨trivial, rfl, ?_⟩; gi_at_call 32; refine (callsIn_wide.2 HS2).mono ?_; rintro e w1 ⟨rfl, hb1⟩; clear HS2; have hbl1 := hbl.trans (hb1.mono hbl.size); have hnb : ((w1.alloc (.cells #[.int .i64 m.letters, .slice sa sn sc, .slice ga gn gc, .int .i64 m.mode, .bool m.banded, .int .i64 m.lo, .int .i64 m.hi, .int .i64 m.front, .int .i64 m.back, .int .i64 m.least, .slice xa xn xc, .slice ya yn yc] 55)).alloc (.cells #[.slice none 0 0] 38)).heap[w1.heap.size]? = some (.cells #[.int .i64 m.letters, .slice sa sn sc, .slice ga gn gc, .int .i64 m.mode, .bool m.banded, .int .i64 m.lo, .int .i64 m.hi, .int .i64 m.front, .int .i64 m.back, .int .i64 m.least, .slice xa xn xc, .slice ya yn yc] 55 (0, 0)) := hp_old (hp_at rfl); have n0 := cell_block hnb 0 (.int .i64 m.letters) rfl; have n1 := cell_block hnb 1 (.slice sa sn sc) rfl; have n2 := cell_block hnb 2 (.slice ga gn gc) rfl; have n3 := cell_block hnb 3 (.int .i64 m.mode) rfl; have n4 := cell_block hnb 4 (.bool m.banded) rfl; have n5 := cell_block hnb 5 (.int .i64 m.lo) rfl; have n6 := cell_block hnb 6 (.int .i64 m.hi) rfl; have n7 := cell_block hnb 7 (.int .i64 m.front) rfl; have n8 := cell_block hnb 8 (.int .i64 m.back) rfl; have n9 := cell_block hnb 9 (.int .i64 m.least) rfl; have n10 := cell_block hnb 10 (.slice xa xn xc) rfl; have n11 := cell_block hnb 11 (.slice ya yn yc) rfl)
      | (refine ⟨trivial, rfl, ?_⟩; gi_at_call 33; refine (callsIn_wide.2 (paths_calls m sa sn sc ga gn gc xa xn xc ya yn yc _)).mono ?_; rintro e w3 ⟨bf', rfl, hb3, hge, hbf'⟩))
    have hlt3 : w1.heap.size + 1 < w3.heap.size := by have := hb3.size; simp at this; omega
    have hba : w3.heap[w1.heap.size + 1]? = some (.cells #[.slice none 0 0] 38 (0, 0)) := (Fr.of_below (O := fun _ => False) hb3).heap (hp_at (by simp)) (fun h => h)
    have hbl3 : Below w.heap.size w w3 := (below_al (below_al hbl1 _) _).trans (hb3.mono (below_al (below_al hbl1 _) _).size)
    have hwle : w.heap.size ≤ w1.heap.size := hbl1.size
    obtain ⟨i0, hi0, hz0, hz1, hz2⟩ := info_parts info33
    have hfew := pathsB_few (m := m) (nx := xn) (ny := yn) (by omega)
    refine rf_law (gf := 56) (encs := encP) (xs := pathsB m xn yn) (C := fun k => k = bf') rfl (enters_of Try.func56 (by kernel_rfl) rfl) (fun _ => rfl)
      (fun W' hb' => paths1_gives m sa sn sc ga gn gc xa xn xc ya yn yc (by omega) (by omega) hgl bf' W' ((Fr.of_below (O := fun _ => False) hb').heap hbf' (fun h => h)))
      (AlK w.heap.size (w1.heap.size + 1)) (fun k => k = w1.heap.size + 1) (fun s O A h => h.lt) (fun k hk => ⟨by rw [hk]; exact (Array.getElem?_eq_some_iff.1 hbf').1, fun ho => by simp at hge; omega⟩) AlK.stab
      ⟨_, hba, World.ownsRow_nil _ _ _ _, fun k => by simp [Value.ownBlock], by omega, by simp [Value.ownBlock], fun h => absurd rfl h⟩ pBox ?_ ?_
    · intro l' pre x post Oq Wq hxp hKq hnl hle
      simp only [encP, ptV]
      gi_wp2
      refine ⟨rfl, ?_⟩
      rintro W2 hK2 hbx hnb2
      have hx0 := cell_block hbx 0 (.int .i64 x.i) rfl
      have hx1 := cell_block hbx 1 (.int .i64 x.j) rfl
      have hx2 := cell_block hbx 2 (.string (bs x.cols)) rfl
      obtain ⟨v, hv, hrow, hO, hB, hnv, _⟩ := hK2.row
      have hvc := cell_block hv 0 v rfl
      have hvf := cellf hv 0
      have hlen : pre.length < 100000000 := by rw [hxp] at hfew; simp at hfew; omega
      have hlt2 := (Array.getElem?_eq_some_iff.1 hv).1
      gi_wp2_with (gi_at_builtin; refine Hid.out ?_)
      have hK0 : ∀ p : Prop, p → Hid p := fun p h => h
      refine hK0 _ ?_
      refine in_append_fresh rfl _ _ 38 rfl w.heap.size 33 i0 _ 3 32 Try.underlying38 hi0 hz0 hz1 hz2 rfl (by decide) v pre.length (ptRow pre) rfl (own_keep_row hrow (Fr.of_below (O := fun _ => False) (bl1 _ _)) (fun _ _ h => h)) ⟨W2.heap.size, 0, none⟩ 1 1 (ptCells x) rfl rfl (new_three _ _) (by simp [ptCells, Value.oneCell']) (by unfold maxLen; omega) (by omega) (by simp; omega) ?_
      intro v' w5 hown' hgrow hfresh
      obtain ⟨g', cap', rfl⟩ := ownsRow_succ hown'
      have hv5 : w5.heap[w1.heap.size + 1]? = some (.cells #[v] 38 (0, 0)) := (hgrow.block _ (by simp; omega) (fun e => hnv e.symm)).trans (hp_old hv)
      have hvc5 := cell_block hv5 0 v rfl
      have hvf5 := cellf hv5 0
      gi_wp2
      have hgn : g' ≠ w1.heap.size + 1 := fun e => by
        rcases hfresh g' rfl with h | h
        · exact hnv (by rw [← h, e])
        · simp at h; omega
      have hfin : Fr Oq W2 (w5.setCell ⟨w1.heap.size + 1, 0, none⟩ (.slice (some ⟨g', 0, none⟩) (pre.length + 1) cap')) :=
        (((Fr.refl Oq W2).alloc _).grown hgrow (fun k e => .inl ((hO k).2 (.inr e)))).setCell (.inl ((hO _).2 (.inl rfl))) _ _
      refine ⟨fun k => k = w1.heap.size + 1 ∨ g' = k, ⟨.slice (some ⟨g', 0, none⟩) (pre.length + 1) cap', Boxed.set _ hv5, ?_, fun k => by simp [Value.ownBlock], hB, fun e => hgn (by simpa [Value.ownBlock] using e), fun _ => ⟨g', cap', by simp⟩⟩, hfin, ?_⟩
      · rw [ptRow_snoc, List.length_append]
        exact own_keep_row hown' ((Fr.refl (fun k => k = w1.heap.size + 1) w5).setCell (.inl rfl) 0 _) (fun g hg hT => by simp [Value.ownBlock] at hg; omega)
      · rintro k (rfl | rfl)
        · exact .inl ((hO _).2 (.inl rfl))
        · rcases hfresh g' rfl with h | h
          · exact .inl ((hO _).2 (.inr h.symm))
          · exact .inr (by simp at h; omega)
    · rintro D O' W' hD hK' hd hnD hf' ho'
      obtain ⟨v, hv, hrow, hO, hB, hnv, _⟩ := hK'.row
      obtain ⟨va, vc, rfl⟩ := owned_shape hrow
      have hvc := cell_block hv 0 _ rfl
      gi_wp2
      refine leaves_marks [D] W' (by simp) (fun E hE => by simp at hE; rw [hE]; exact hd) (fun W2 hf => ⟨_, results_tmp2 rfl _ _ _, ?_⟩)
      refine ⟨.slice va (pathsB m xn yn).length vc, ?_, ?_, fun _ => ?_, fun h => absurd hE h⟩
      · rw [hE]; rfl
      · have h1 : Below w.heap.size w W' := hbl3.trans (hf'.below (fun k hk => by omega) hbl3.size)
        exact h1.trans (hf.below (fun k hk => by simp at hk; omega) h1.size)
      · rw [hxl, hyl]
        exact own_keep_row hrow hf (fun g hg hT => hnD (by simp at hT; rw [← hT]; exact (hO _).2 (.inr hg)))
  · rw [if_neg hE0, show fdZero = #[.int .i64 0, .slice none 0 0, .slice none 0 0, .int .i64 0, .bool false, .int .i64 0, .int .i64 0, .int .i64 0, .int .i64 0, .int .i64 0, .slice none 0 0, .slice none 0 0] from rfl] at HS2
    have hE2 : (E == 0) = false := by simpa using hE0
    gi_wp2_with (refine ⟨trivial, rfl, ?_⟩; gi_at_call 32; refine (callsIn_wide.2 HS2).mono ?_; rintro e w1 ⟨rfl, hb1⟩; clear HS2; have hbl1 := hbl.trans (hb1.mono hbl.size))
    refine ⟨_, results_tmp2 rfl _ _ _, ?_⟩
    refine ⟨.slice none 0 0, ?_, below_al hbl1 _, fun h => absurd (hE.symm.trans h) hE0, fun _ => rfl⟩
    rw [hE]
    rfl

theorem all_calls (m : Md) (sa : Option Addr) (sn sc : Nat) (ga : Option Addr) (gn gc : Nat) (xa : Option Addr) (xn xc : Nat) (ya : Option Addr) (yn yc : Nat) (xs ys : List Int) (w : World) (h : MdAt w m sa sn ga gn) (hx : IntsAt w xa xn xs) (hy : IntsAt w ya yn ys) :
    Calls Try.prog 16 #[.agg (mdCells m sa sn sc ga gn gc), .slice xa xn xc, .slice ya yn yc] w fun e w' => AllPost m xs ys w e w' := callsIn_wide.1 (all_in m sa sn sc ga gn gc xa xn xc ya yn yc xs ys w h hx hy)
end Go.Proofs.Ytegndeefddlccaa
