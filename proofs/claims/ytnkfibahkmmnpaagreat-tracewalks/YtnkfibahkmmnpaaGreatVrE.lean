/-
  The walk of meet.
-/
import Derived.Deep.Cut
import Derived.OwnWalk
import Derived.Test.YtnkfibahkmmnpaaGreatKf
import Derived.Test.YtnkfibahkmmnpaaGreatApp
import Derived.Test.YtnkfibahkmmnpaaGreatDrw
namespace Go.Proofs.YtnkfibahkmmnpaaGreat
open Go.RowKit

theorem cell_al {W : World} {p : Addr} {v : Value} (h : W.cell? p = some v) (o : Obj) : (W.alloc o).cell? p = some v := by
  rw [(below_new o).cell (World.block_lt_of_cell? W _ h)]; exact h
theorem info93 : (Tryz.prog.info? 180).map (fun i => (i.zero, i.size, i.bytes)) = some (some (.agg #[.int .i64 0, .int .i64 0, .int .i64 0, .int .i64 0]), 4, 32) := by kernel_rfl
/-- Blocks of other types are not a row's. -/
theorem own_other {w : World} {base : Nat} {e t : TypeId} {size : Nat} {v : Value} {n : Nat} {xs : List Value} (h : w.ownsRow base e size v n xs) {g : Nat} {cs : Array Value} {f : Nat × Nat} (hg : w.heap[g]? = some (.cells cs t f)) (hne : e ≠ t) : some g ≠ v.ownBlock := by
  intro e'
  rcases h.2 with ⟨hv, _⟩ | ⟨g', cap', cur', hv, _, hg', _⟩
  · rw [hv] at e'; cases e'
  · rw [hv] at e'; simp [Value.ownBlock] at e'; subst e'; rw [hg'] at hg; cases hg; exact hne rfl
theorem own_lt {w : World} {base : Nat} {e : TypeId} {size : Nat} {v : Value} {n : Nat} {xs : List Value} (h : w.ownsRow base e size v n xs) {g : Nat} (hg : v.ownBlock = some g) : g < w.heap.size ∧ base ≤ g := by
  rcases h.2 with ⟨hv, _⟩ | ⟨g', cap', cur', hv, hb, hg', _⟩
  · rw [hv] at hg; cases hg
  · rw [hv] at hg; simp [Value.ownBlock] at hg; subst hg; exact ⟨lt_block hg', hb⟩
theorem low_grown {w0 w w' : World} {b : Nat} {r : Option Nat} (h : Below b w0 w) (hg : w.grownBy w' r) (hs : b ≤ w.heap.size) (hr : ∀ k, r = some k → b ≤ k) : Below b w0 w' := h.grown hg hs hr
def wayR (r : Rg) (q : Qd) : Rg := ⟨r.wr, r.kind, r.plane, r.step, r.met, r.ways ++ [q], r.weight⟩
theorem qdVals_snoc (l : List Qd) (q : Qd) : qdVals (l ++ [q]) = qdVals l ++ qdCells q := by simp [qdVals]
/-- A way more. -/
theorem Lk.append {w0 w wa : World} {b : Nat} {c : Cd} {s : Ls} {S : St} {wv : Nat → Value} (h : Lk w0 w b c s S wv) {k : Nat} (hk : k < 16) (q : Qd) {v : Value}
    (o1 : wa.ownsRow b 180 4 v ((S.regs k).ways.length + 1) (qdVals (S.regs k).ways ++ qdCells q)) (o2 : w.grownBy wa (wv k).ownBlock) (o3 : ∀ g, v.ownBlock = some g → some g = (wv k).ownBlock ∨ w.heap.size ≤ g) :
    Lk w0 (wa.setCell ⟨b, 10 + k * 7 + 5, none⟩ v) b c s (setR S k (wayR (S.regs k) q)) (upV wv k v) := by
  have hbx : wa.heap[b]? = some (.cells (lkCells c s S wv) 128 (0, 0)) := by rw [o2.block b h.lt (own_other (h.rows k hk) h.box (by decide))]; exact h.box
  have hlow : Below w0.heap.size w0 wa := low_grown h.low o2 h.low.size (fun g hg => Nat.le_trans h.le (own_lt (h.rows k hk) hg).2)
  have hrow : wa.ownsRow b 180 4 v (wayR (S.regs k) q).ways.length (qdVals (wayR (S.regs k) q).ways) := by
    show wa.ownsRow b 180 4 v ((S.regs k).ways ++ [q]).length (qdVals ((S.regs k).ways ++ [q]))
    rw [qdVals_snoc, List.length_append]; exact o1
  refine ⟨?_, h.cd, low_set hlow h.le _ v, h.le, fun r hr => ?_, fun r r' hr hr' hne => ?_⟩
  · rw [heap_setCell_same wa b _ _ _ v hbx]
    rw [lk_set (S' := setR S k (wayR (S.regs k) q)) (wv' := upV wv k v) (fun j hj => ?_)]
    by_cases e : 10 ≤ j ∧ j < 122 ∧ (j - 10) / 7 = k
    · obtain ⟨m, hm, rfl⟩ : ∃ m, m < 7 ∧ j = 10 + k * 7 + m := ⟨(j - 10) % 7, by omega, by omega⟩
      rw [lk_reg _ _ _ _ k m hk hm, lk_reg _ _ _ _ k m hk hm]
      show _ = rgCell (updR S.regs k (wayR (S.regs k) q) k) (upV wv k v k) m
      rw [updR_same, upV_same]
      have key : ∀ m, m < 7 → (if m = 5 then v else rgCell (S.regs k) (wv k) m) = rgCell (wayR (S.regs k) q) v m := seven rfl rfl rfl rfl rfl rfl rfl
      rw [← key m hm]
      by_cases e : m = 5
      · rw [if_pos e, if_pos (by omega)]
      · rw [if_neg e, if_neg (by omega)]
    · rw [if_neg (by omega)]
      unfold lkF
      split
      · rfl
      split
      · have e2 : (j - 10) / 7 ≠ k := by omega
        show _ = rgCell (updR S.regs k (wayR (S.regs k) q) ((j - 10) / 7)) (upV wv k v ((j - 10) / 7)) ((j - 10) % 7)
        rw [updR_ne _ _ e2, upV_ne _ _ e2]
      · rfl
  · show World.ownsRow _ _ _ _ (upV wv k v r) (updR S.regs k (wayR (S.regs k) q) r).ways.length (qdVals (updR S.regs k (wayR (S.regs k) q) r).ways)
    by_cases e : r = k
    · subst e; rw [updR_same, upV_same]; exact owned_setOther hrow hbx (by decide) v
    · rw [updR_ne _ _ e, upV_ne _ _ e]
      refine owned_setOther (owned_of_block (h.rows r hr) fun g cur hg hc => o2.block g (lt_block hc) (fun e' => ?_)) hbx (by decide) v
      rcases h.apart r k hr hk e with h0 | h0
      · rw [h0] at hg; cases hg
      · exact h0 (hg.trans e')
  · have hap : ∀ r, r < 16 → r ≠ k → v.ownBlock = none ∨ v.ownBlock ≠ (wv r).ownBlock := fun r hr hne => by
      cases hv : v.ownBlock with
      | none => exact .inl rfl
      | some g =>
        refine .inr fun e' => ?_
        rcases o3 g hv with h0 | h0
        · rcases h.apart k r hk hr (Ne.symm hne) with h1 | h1
          · rw [h1] at h0; cases h0
          · exact h1 (h0.symm.trans e')
        · have := (own_lt (h.rows r hr) e'.symm).1; omega
    by_cases e : r = k
    · subst e
      rw [upV_same, upV_ne _ _ (Ne.symm hne)]
      exact hap r' hr' (Ne.symm hne)
    · rw [upV_ne _ _ e]
      by_cases e2 : r' = k
      · subst e2
        rw [upV_same]
        rcases hap r hr e with h0 | h0
        · by_cases h1 : (wv r).ownBlock = none
          · exact .inl h1
          · exact .inr (by rw [h0]; exact h1)
        · exact .inr (Ne.symm h0)
      · rw [upV_ne _ _ e2]; exact h.apart r r' hr hr' hne
/-- The look, and the boxes of meet. -/
structure Mt (w0 w wd : World) (b : Nat) (c : Cd) (s : Ls) (S : St) (wv : Nat → Value) (X : Array Value) (d p t : Int) : Prop where
  lk : Lk w0 wd b c s S wv
  low : Below b w wd
  size : w.heap.size + 1 < wd.heap.size
  b1 : wd.heap[w.heap.size]? = some (.cells X 122 (0, 0))
  b2 : wd.heap[w.heap.size + 1]? = some (.cells #[.int .i64 d, .int .i64 p, .int .i64 t] 119 (0, 0))
theorem mt_start {w0 w : World} {b : Nat} {c : Cd} {s : Ls} {S : St} {wv : Nat → Value} (h : Lk w0 w b c s S wv) {k : Nat} (hk : k < 16) (X : Array Value) (d p t : Int) :
    Mt w0 w ((((w.setCell ⟨b, 10 + k * 7 + 4, none⟩ (.bool true)).alloc (.cells X 122)).alloc (.cells #[.int .i64 d, .int .i64 p, .int .i64 t] 119))) b c s (setR S k ⟨(S.regs k).wr, (S.regs k).kind, (S.regs k).plane, (S.regs k).step, true, (S.regs k).ways, (S.regs k).weight⟩) wv X d p t := by
  have h1 := h.putK (i := 4) hk (by omega) (v := .bool true) ⟨(S.regs k).wr, (S.regs k).kind, (S.regs k).plane, (S.regs k).step, true, (S.regs k).ways, (S.regs k).weight⟩ (seven rfl rfl rfl rfl rfl rfl rfl) rfl
  have hs : (w.setCell ⟨b, 10 + k * 7 + 4, none⟩ (.bool true)).heap.size = w.heap.size := by simp
  refine ⟨(h1.alloc _).alloc _, ((h.below_put _ _).alloc (by rw [hs]; exact Nat.le_of_lt h.lt) _).alloc (by simp; have := h.lt; omega) _, by simp, ?_, ?_⟩
  · rw [(below_new _).block _ (by simp), ← hs]; exact heap_alloc_new _ _
  · have := heap_alloc_new ((w.setCell ⟨b, 10 + k * 7 + 4, none⟩ (.bool true)).alloc (.cells X 122)) (.cells #[.int .i64 d, .int .i64 p, .int .i64 t] 119)
    simpa using this
theorem Mt.drew {w0 w wd : World} {b : Nat} {c : Cd} {s : Ls} {S : St} {wv : Nat → Value} {X : Array Value} {d p t : Int} (h : Mt w0 w wd b c s S wv X d p t) : Mt w0 w wd.drew b c s S wv X d p t :=
  ⟨h.lk.drewN 1, below_drewN h.low 1, h.size, h.b1, h.b2⟩
theorem Mt.alloc {w0 w wd : World} {b : Nat} {c : Cd} {s : Ls} {S : St} {wv : Nat → Value} {X : Array Value} {d p t : Int} (h : Mt w0 w wd b c s S wv X d p t) (o : Obj) : Mt w0 w (wd.alloc o) b c s S wv X d p t :=
  ⟨h.lk.alloc o, h.low.alloc (Nat.le_of_lt h.lk.lt) o, by have := h.size; simp; omega, by rw [(below_new o).block _ (by have := h.size; omega)]; exact h.b1, by rw [(below_new o).block _ h.size]; exact h.b2⟩
theorem Mt.append {w0 w wd wa : World} {b : Nat} {c : Cd} {s : Ls} {S : St} {wv : Nat → Value} {X : Array Value} {d p t : Int} (h : Mt w0 w wd b c s S wv X d p t) {k : Nat} (hk : k < 16) (q : Qd) {v : Value}
    (o1 : wa.ownsRow b 180 4 v ((S.regs k).ways.length + 1) (qdVals (S.regs k).ways ++ qdCells q)) (o2 : wd.grownBy wa (wv k).ownBlock) (o3 : ∀ g, v.ownBlock = some g → some g = (wv k).ownBlock ∨ wd.heap.size ≤ g) :
    Mt w0 w (wa.setCell ⟨b, 10 + k * 7 + 5, none⟩ v) b c s (setR S k (wayR (S.regs k) q)) (upV wv k v) X d p t ∧ wa.cell? ⟨b, 10 + k * 7 + 5, none⟩ = some (wv k) ∧ wa.frozen? ⟨b, 10 + k * 7 + 5, none⟩ = false := by
  have hbx : wa.heap[b]? = some (.cells (lkCells c s S wv) 128 (0, 0)) := by rw [o2.block b h.lk.lt (own_other (h.lk.rows k hk) h.lk.box (by decide))]; exact h.lk.box
  have hne1 : w.heap.size ≠ b := fun e => by have := h.b1; rw [e, h.lk.box] at this; injection this with t1; injection t1 with _ t2; exact absurd t2 (by decide)
  have hne2 : w.heap.size + 1 ≠ b := fun e => by have := h.b2; rw [e, h.lk.box] at this; injection this with t1; injection t1 with _ t2; exact absurd t2 (by decide)
  refine ⟨⟨h.lk.append hk q o1 o2 o3, (low_grown h.low o2 (Nat.le_of_lt h.lk.lt) (fun g hg => (own_lt (h.lk.rows k hk) hg).2)).setCell (p := ⟨b, 10 + k * 7 + 5, none⟩) (Nat.le_refl b) v, ?_, ?_, ?_⟩, ?_, frozen_of_row _ _ _ _ _ hbx⟩
  · have := h.size; have := o2.size; simp; omega
  · rw [Below.heap_setCell _ _ v _ hne1, o2.block _ (by have := h.size; omega) (own_other (h.lk.rows k hk) h.b1 (by decide))]; exact h.b1
  · rw [Below.heap_setCell _ _ v _ hne2, o2.block _ h.size (own_other (h.lk.rows k hk) h.b2 (by decide))]; exact h.b2
  · rw [cell_block hbx _ _ (lk_get _ _ _ _ (by omega)), lk_reg _ _ _ _ k 5 hk (by omega)]; rfl
theorem qd_one (q : Qd) : ∀ u ∈ qdCells q, u.oneCell' = true := by
  intro v h
  simp [qdCells] at h
  rcases h with rfl | rfl | rfl | rfl <;> rfl
theorem cells_new4 (W : World) (cs : List Value) (t : TypeId) : ∀ j u, cs[j]? = some u → (W.alloc (.cells cs.toArray t)).cell? ((⟨W.heap.size, 0, none⟩ : Addr).add j) = some u := by
  intro j u hu
  rw [Addr.add_mid, Nat.zero_add]
  exact cell_block (heap_alloc_new W _) j u (by simpa using hu)

set_option maxRecDepth 10000 in
set_option maxHeartbeats 2000000 in
theorem meet_calls {w0 w : World} {b : Nat} {c : Cd} {s : Ls} {S : St} {wv : Nat → Value} (h : Lk w0 w b c s S wv) {k : Nat} (hk : k < 16) (hn : (S.regs k).ways.length ≤ 1000) (x : Rg) (xa : Option Addr) (xn xc : Nat) (bit : Int) :
    Calls Tryz.prog 106 #[.pointer (some ⟨b, 10 + k * 7, none⟩), .agg #[.bool x.wr, .int .i64 x.kind, .int .i64 x.plane, .int .i64 x.step, .bool x.met, .slice xa xn xc, .int .i64 x.weight], .int .i64 bit] w fun e w' => e = .returned (.tuple #[]) ∧ (∃ wv', Lk w0 w' b c s (setR S k (meetB (S.regs k) x bit)) wv') ∧ Below b w w' := by
  have hlt := h.lt
  have r4 := h.r4 hk
  have fz := h.fz
  have HL : Hid (Lk w0 w b c s S wv) := h
  have HN : Hid ((S.regs k).ways.length ≤ 1000) := hn
  obtain ⟨i0, hi, hz0, hz1, hz2⟩ := info_parts info93
  have HI : Hid (Tryz.prog.info? 180 = some i0 ∧ i0.zero = some (.agg #[.int .i64 0, .int .i64 0, .int .i64 0, .int .i64 0]) ∧ i0.size = 4 ∧ i0.bytes = 32) := ⟨hi, hz0, hz1, hz2⟩
  clear h hn hi hz0 hz1 hz2
  obtain ⟨xw, xk, xp, xs, xm, xl, xg⟩ := x
  simp only
  cases xm
  · have HM : Hid (meetB (S.regs k) ⟨xw, xk, xp, xs, false, xl, xg⟩ bit = ⟨(S.regs k).wr, (S.regs k).kind, (S.regs k).plane, (S.regs k).step, true, (S.regs k).ways ++ [(bit, xk, xp, xs)], max (S.regs k).weight xg⟩) := rfl
    have HT : Hid (Mt w0 w _ b c s _ wv _ xk xp xs) := mt_start HL.out hk #[.bool xw, .int .i64 xk, .int .i64 xp, .int .i64 xs, .bool false, .slice xa xn xc, .int .i64 xg] xk xp xs
    go_enter Tryz.func106, Tryz.ntmps106
    go_upto_region 5 with (fail)
    clear fz r4
    generalize (((w.setCell ⟨b, 10 + k * 7 + 4, none⟩ (.bool true)).alloc (.cells #[.bool xw, .int .i64 xk, .int .i64 xp, .int .i64 xs, .bool false, .slice xa xn xc, .int .i64 xg] 122)).alloc (.cells #[.int .i64 (xk), .int .i64 (xp), .int .i64 (xs)] 119)) = wd at *
    have HT1 := HT.out.drew
    clear HT
    have HK : Hid (Lk w0 wd.drew b c s (setR S k ⟨(S.regs k).wr, (S.regs k).kind, (S.regs k).plane, (S.regs k).step, true, (S.regs k).ways, (S.regs k).weight⟩) wv) := HT1.lk
    have HS : Hid (wd.drew.cell? ⟨b, 10 + k * 7 + 5, none⟩ = some (wv k) ∧ wd.drew.cell? ⟨w.heap.size + 1, 0, none⟩ = some (.int .i64 xk) ∧ wd.drew.cell? ⟨w.heap.size + 1, 1, none⟩ = some (.int .i64 xp) ∧ wd.drew.cell? ⟨w.heap.size + 1, 2, none⟩ = some (.int .i64 xs)) := ⟨HT1.lk.r5 hk, cell_block HT1.b2 0 _ rfl, cell_block HT1.b2 1 _ rfl, cell_block HT1.b2 2 _ rfl⟩
    have HO : Hid (wd.drew.ownsRow b 180 4 (wv k) (S.regs k).ways.length (qdVals (S.regs k).ways)) := by
      have := HT1.lk.rows k hk
      rw [regs_set] at this
      exact this
    have HT2 : Hid (Mt w0 w wd.drew b c s (setR S k ⟨(S.regs k).wr, (S.regs k).kind, (S.regs k).plane, (S.regs k).step, true, (S.regs k).ways, (S.regs k).weight⟩) wv #[.bool xw, .int .i64 xk, .int .i64 xp, .int .i64 xs, .bool false, .slice xa xn xc, .int .i64 xg] xk xp xs) := HT1
    clear HT1
    refine wp_region_Y (fun j => [9, 12].contains j) (fun W : World => W.cell? ⟨b, 10 + k * 7 + 5, none⟩ = some (wv k) ∧ W.cell? ⟨w.heap.size + 1, 0, none⟩ = some (.int .i64 xk) ∧ W.cell? ⟨w.heap.size + 1, 1, none⟩ = some (.int .i64 xp) ∧ W.cell? ⟨w.heap.size + 1, 2, none⟩ = some (.int .i64 xs)) (by kernel_rfl) ?_
    refine wpAnyY_pure (i := 0) 15 (v := .pointer (some ⟨b, 10 + k * 7, none⟩)) rfl rfl (by kernel_rfl) (by kernel_rfl) (by kernel_rfl) (fun _ _ _ h => h) (Or.inl ⟨by rfl, by (intro W _; go_simp)⟩) ?_
    simp only [Act.put, List.setIfInBounds_toArray, List.set_cons_succ, List.set_cons_zero]
    refine wpAnyY_pure (i := 1) 16 (v := .pointer (some ⟨b, 10 + k * 7, none⟩)) rfl rfl (by kernel_rfl) (by kernel_rfl) (by kernel_rfl) (fun _ _ _ h => h) (Or.inl ⟨by rfl, by (intro W _; go_simp)⟩) ?_
    simp only [Act.put, List.setIfInBounds_toArray, List.set_cons_succ, List.set_cons_zero]
    refine wpAnyY_pure (i := 2) 17 (v := .pointer (some ⟨b, 10 + k * 7, none⟩)) rfl rfl (by kernel_rfl) (by kernel_rfl) (by kernel_rfl) (fun _ _ _ h => h) (Or.inl ⟨by rfl, by (intro W _; go_simp)⟩) ?_
    simp only [Act.put, List.setIfInBounds_toArray, List.set_cons_succ, List.set_cons_zero]
    refine wpAnyY_pure (i := 3) 18 (v := .pointer (some ⟨b, 10 + k * 7 + 5, none⟩)) rfl rfl (by kernel_rfl) (by kernel_rfl) (by kernel_rfl) (fun _ _ _ h => h) (Or.inl ⟨by rfl, by (intro W _; go_simp)⟩) ?_
    simp only [Act.put, List.setIfInBounds_toArray, List.set_cons_succ, List.set_cons_zero]
    refine wpAnyY_takeD (i := 4) 19 (v := wv k) rfl rfl (by kernel_rfl) (by kernel_rfl) (late_of (by kernel_rfl)) (by kernel_rfl) (by kernel_rfl) (fun _ _ _ h => h) HS.out (Or.inl ⟨by rfl, by (intro W hW; obtain ⟨e5, e0, e1, e2⟩ := hW; go_simp)⟩) ?_
    simp only [Act.put, List.setIfInBounds_toArray, List.set_cons_succ, List.set_cons_zero]
    refine wpAnyY_pure (i := 5) 20 (v := .int .i64 bit) rfl rfl (by kernel_rfl) (by kernel_rfl) (by kernel_rfl) (fun _ _ _ h => h) (Or.inl ⟨by rfl, by (intro W _; go_simp)⟩) ?_
    simp only [Act.put, List.setIfInBounds_toArray, List.set_cons_succ, List.set_cons_zero]
    refine wpAnyY_takeD (i := 6) 21 (v := .agg #[.int .i64 xk, .int .i64 xp, .int .i64 xs]) rfl rfl (by kernel_rfl) (by kernel_rfl) (late_of (by kernel_rfl)) (by kernel_rfl) (by kernel_rfl) (fun _ _ _ h => h) HS.out (Or.inl ⟨by rfl, by (intro W hW; obtain ⟨e5, e0, e1, e2⟩ := hW; go_simp)⟩) ?_
    simp only [Act.put, List.setIfInBounds_toArray, List.set_cons_succ, List.set_cons_zero]
    refine wpAnyY_pure (i := 7) 22 (v := .agg #[.int .i64 bit, .int .i64 xk, .int .i64 xp, .int .i64 xs]) rfl rfl (by kernel_rfl) (by kernel_rfl) (by kernel_rfl) (fun _ _ _ h => h) (Or.inl ⟨by rfl, by (intro W _; go_simp)⟩) ?_
    simp only [Act.put, List.setIfInBounds_toArray, List.set_cons_succ, List.set_cons_zero]
    refine wpAnyY_one (i := 8) rfl (by kernel_rfl) (fun Kc hKc => ?_)
    go_simp
    refine hKc.out _ _ (fun _ h => ⟨cell_al h.1 _, cell_al h.2.1 _, cell_al h.2.2.1 _, cell_al h.2.2.2 _⟩) ?_
    clear hKc Kc
    have HT3 := HT2.out.alloc (.cells (qdCells (bit, xk, xp, xs)).toArray 180)
    have HO3 := owned_below HO.out (below_new (.cells (qdCells (bit, xk, xp, xs)).toArray 180))
    refine wpAnyY_one (i := 9) rfl (by kernel_rfl) (fun Kc hKc => ?_)
    refine step_append_fresh rfl (.tmp 19) (.tmp 23) 120 rfl b 180 i0 _ 4 32 Tryz.underlying120 HI.out.1 HI.out.2.1 HI.out.2.2.1 HI.out.2.2.2 rfl (by decide) (wv k) _ _ (by simp [Act.eval]) HO3 ⟨wd.heap.size, 0, none⟩ 1 1 (qdCells (bit, xk, xp, xs)) (by simp [Act.eval]) rfl (cells_new4 wd.drew _ 180) (qd_one _) (by have := HN.out; unfold maxLen; omega) (by have := HN.out; omega) (Nat.le_of_lt HT3.lk.lt) ?_
    intro v wa o1 o2 o3
    refine hKc.out _ _ (fun h => absurd h (by decide)) ?_
    clear hKc Kc
    have HT4 := HT3.append hk (bit, xk, xp, xs) (v := v) (wa := wa) (by rw [regs_set]; exact o1) o2 o3
    rw [regs_set, setR_up] at HT4
    obtain ⟨HT5, y5, f5⟩ := HT4
    have HT6 : Hid (Mt w0 w (wa.setCell ⟨b, 10 + k * 7 + 5, none⟩ v) b c s (setR S k ⟨(S.regs k).wr, (S.regs k).kind, (S.regs k).plane, (S.regs k).step, true, (S.regs k).ways ++ [(bit, xk, xp, xs)], (S.regs k).weight⟩) (upV wv k v) #[.bool xw, .int .i64 xk, .int .i64 xp, .int .i64 xs, .bool false, .slice xa xn xc, .int .i64 xg] xk xp xs) := HT5
    obtain ⟨vo, vc, hv⟩ := owned_shape o1
    subst hv
    clear HT5 HT3 HO3 o1 o2 o3 HS HO HT2 HK
    simp only [Act.put]
    refine wpAnyY_pure (i := 10) 25 (v := .pointer (some ⟨b, 10 + k * 7, none⟩)) rfl rfl (by kernel_rfl) (by kernel_rfl) (by kernel_rfl) (fun _ _ _ h => h) (Or.inl ⟨by rfl, by (intro W _; go_simp)⟩) ?_
    simp only [Act.put]
    refine wpAnyY_pure (i := 11) 26 (v := .pointer (some ⟨b, 10 + k * 7 + 5, none⟩)) rfl rfl (by kernel_rfl) (by kernel_rfl) (by kernel_rfl) (fun _ _ _ h => h) (Or.inl ⟨by rfl, by (intro W _; go_simp)⟩) ?_
    simp only [Act.put]
    refine wpAnyY_one (i := 12) rfl (by kernel_rfl) (fun Kc hKc => ?_)
    go_simp
    refine hKc.out _ _ (fun h => absurd h (by decide)) ?_
    clear hKc Kc
    refine wpAnyY_done (by kernel_rfl) ?_ _
    have B1 := cell_block HT6.out.b1 6 (.int .i64 xg) rfl
    have R6 := HT6.out.lk.r6 hk
    rw [regs_set] at R6
    have F6 := HT6.out.lk.fz (10 + k * 7 + 6)
    have HU : Hid (∀ g : Int, g = max (S.regs k).weight xg → ∀ n, (∃ wv', Lk w0 (((wa.setCell ⟨b, 10 + k * 7 + 5, none⟩ (.slice vo ((S.regs k).ways.length + 1) vc)).setCell ⟨b, 10 + k * 7 + 6, none⟩ (.int .i64 g)).drewN n) b c s (setR S k (meetB (S.regs k) ⟨xw, xk, xp, xs, false, xl, xg⟩ bit)) wv') ∧ Below b w (((wa.setCell ⟨b, 10 + k * 7 + 5, none⟩ (.slice vo ((S.regs k).ways.length + 1) vc)).setCell ⟨b, 10 + k * 7 + 6, none⟩ (.int .i64 g)).drewN n)) := by
      intro g hg n
      subst hg
      have h1 := HT6.out.lk.putK (i := 6) hk (by omega) (v := .int .i64 (max (S.regs k).weight xg)) (meetB (S.regs k) ⟨xw, xk, xp, xs, false, xl, xg⟩ bit) (by rw [regs_set]; exact seven rfl rfl rfl rfl rfl rfl rfl) (by rw [regs_set]; rfl)
      rw [setR_up] at h1
      exact ⟨⟨_, h1.drewN n⟩, below_drewN (HT6.out.low.setCell (p := ⟨b, 10 + k * 7 + 6, none⟩) (Nat.le_refl b) _) n⟩
    clear HT6 y5 f5 HM HL HN HI
    generalize wa.setCell ⟨b, 10 + k * 7 + 5, none⟩ (.slice vo ((S.regs k).ways.length + 1) vc) = wz at *
    simp only at R6
    go_wp2_with fail
    by_cases hmx : (S.regs k).weight < xg
    · have hmy : decide ((S.regs k).weight < xg) = true := by simpa using hmx
      go_region
      go_wp2
      go_end0
      exact ⟨rfl, HU.out _ (by omega) 1⟩
    · have hmy : decide ((S.regs k).weight < xg) = false := by simpa using hmx
      go_region
      go_wp2
      go_end0
      exact ⟨rfl, HU.out _ (by omega) 1⟩
  · have HM : Hid (meetB (S.regs k) ⟨xw, xk, xp, xs, true, xl, xg⟩ bit = ⟨(S.regs k).wr, (S.regs k).kind, (S.regs k).plane, (S.regs k).step, true, (S.regs k).ways ++ [(bit, 3, 0, 0)], max (S.regs k).weight xg⟩) := rfl
    have HT : Hid (Mt w0 w _ b c s _ wv _ 3 0 0) := mt_start HL.out hk #[.bool xw, .int .i64 xk, .int .i64 xp, .int .i64 xs, .bool true, .slice xa xn xc, .int .i64 xg] 3 0 0
    go_enter Tryz.func106, Tryz.ntmps106
    go_upto_region 5 with (fail)
    clear fz r4
    generalize (((w.setCell ⟨b, 10 + k * 7 + 4, none⟩ (.bool true)).alloc (.cells #[.bool xw, .int .i64 xk, .int .i64 xp, .int .i64 xs, .bool true, .slice xa xn xc, .int .i64 xg] 122)).alloc (.cells #[.int .i64 (3), .int .i64 (0), .int .i64 (0)] 119)) = wd at *
    have HT1 := HT.out.drew
    clear HT
    have HK : Hid (Lk w0 wd.drew b c s (setR S k ⟨(S.regs k).wr, (S.regs k).kind, (S.regs k).plane, (S.regs k).step, true, (S.regs k).ways, (S.regs k).weight⟩) wv) := HT1.lk
    have HS : Hid (wd.drew.cell? ⟨b, 10 + k * 7 + 5, none⟩ = some (wv k) ∧ wd.drew.cell? ⟨w.heap.size + 1, 0, none⟩ = some (.int .i64 3) ∧ wd.drew.cell? ⟨w.heap.size + 1, 1, none⟩ = some (.int .i64 0) ∧ wd.drew.cell? ⟨w.heap.size + 1, 2, none⟩ = some (.int .i64 0)) := ⟨HT1.lk.r5 hk, cell_block HT1.b2 0 _ rfl, cell_block HT1.b2 1 _ rfl, cell_block HT1.b2 2 _ rfl⟩
    have HO : Hid (wd.drew.ownsRow b 180 4 (wv k) (S.regs k).ways.length (qdVals (S.regs k).ways)) := by
      have := HT1.lk.rows k hk
      rw [regs_set] at this
      exact this
    have HT2 : Hid (Mt w0 w wd.drew b c s (setR S k ⟨(S.regs k).wr, (S.regs k).kind, (S.regs k).plane, (S.regs k).step, true, (S.regs k).ways, (S.regs k).weight⟩) wv #[.bool xw, .int .i64 xk, .int .i64 xp, .int .i64 xs, .bool true, .slice xa xn xc, .int .i64 xg] 3 0 0) := HT1
    clear HT1
    refine wp_region_Y (fun j => [9, 12].contains j) (fun W : World => W.cell? ⟨b, 10 + k * 7 + 5, none⟩ = some (wv k) ∧ W.cell? ⟨w.heap.size + 1, 0, none⟩ = some (.int .i64 3) ∧ W.cell? ⟨w.heap.size + 1, 1, none⟩ = some (.int .i64 0) ∧ W.cell? ⟨w.heap.size + 1, 2, none⟩ = some (.int .i64 0)) (by kernel_rfl) ?_
    refine wpAnyY_pure (i := 0) 15 (v := .pointer (some ⟨b, 10 + k * 7, none⟩)) rfl rfl (by kernel_rfl) (by kernel_rfl) (by kernel_rfl) (fun _ _ _ h => h) (Or.inl ⟨by rfl, by (intro W _; go_simp)⟩) ?_
    simp only [Act.put, List.setIfInBounds_toArray, List.set_cons_succ, List.set_cons_zero]
    refine wpAnyY_pure (i := 1) 16 (v := .pointer (some ⟨b, 10 + k * 7, none⟩)) rfl rfl (by kernel_rfl) (by kernel_rfl) (by kernel_rfl) (fun _ _ _ h => h) (Or.inl ⟨by rfl, by (intro W _; go_simp)⟩) ?_
    simp only [Act.put, List.setIfInBounds_toArray, List.set_cons_succ, List.set_cons_zero]
    refine wpAnyY_pure (i := 2) 17 (v := .pointer (some ⟨b, 10 + k * 7, none⟩)) rfl rfl (by kernel_rfl) (by kernel_rfl) (by kernel_rfl) (fun _ _ _ h => h) (Or.inl ⟨by rfl, by (intro W _; go_simp)⟩) ?_
    simp only [Act.put, List.setIfInBounds_toArray, List.set_cons_succ, List.set_cons_zero]
    refine wpAnyY_pure (i := 3) 18 (v := .pointer (some ⟨b, 10 + k * 7 + 5, none⟩)) rfl rfl (by kernel_rfl) (by kernel_rfl) (by kernel_rfl) (fun _ _ _ h => h) (Or.inl ⟨by rfl, by (intro W _; go_simp)⟩) ?_
    simp only [Act.put, List.setIfInBounds_toArray, List.set_cons_succ, List.set_cons_zero]
    refine wpAnyY_takeD (i := 4) 19 (v := wv k) rfl rfl (by kernel_rfl) (by kernel_rfl) (late_of (by kernel_rfl)) (by kernel_rfl) (by kernel_rfl) (fun _ _ _ h => h) HS.out (Or.inl ⟨by rfl, by (intro W hW; obtain ⟨e5, e0, e1, e2⟩ := hW; go_simp)⟩) ?_
    simp only [Act.put, List.setIfInBounds_toArray, List.set_cons_succ, List.set_cons_zero]
    refine wpAnyY_pure (i := 5) 20 (v := .int .i64 bit) rfl rfl (by kernel_rfl) (by kernel_rfl) (by kernel_rfl) (fun _ _ _ h => h) (Or.inl ⟨by rfl, by (intro W _; go_simp)⟩) ?_
    simp only [Act.put, List.setIfInBounds_toArray, List.set_cons_succ, List.set_cons_zero]
    refine wpAnyY_takeD (i := 6) 21 (v := .agg #[.int .i64 3, .int .i64 0, .int .i64 0]) rfl rfl (by kernel_rfl) (by kernel_rfl) (late_of (by kernel_rfl)) (by kernel_rfl) (by kernel_rfl) (fun _ _ _ h => h) HS.out (Or.inl ⟨by rfl, by (intro W hW; obtain ⟨e5, e0, e1, e2⟩ := hW; go_simp)⟩) ?_
    simp only [Act.put, List.setIfInBounds_toArray, List.set_cons_succ, List.set_cons_zero]
    refine wpAnyY_pure (i := 7) 22 (v := .agg #[.int .i64 bit, .int .i64 3, .int .i64 0, .int .i64 0]) rfl rfl (by kernel_rfl) (by kernel_rfl) (by kernel_rfl) (fun _ _ _ h => h) (Or.inl ⟨by rfl, by (intro W _; go_simp)⟩) ?_
    simp only [Act.put, List.setIfInBounds_toArray, List.set_cons_succ, List.set_cons_zero]
    refine wpAnyY_one (i := 8) rfl (by kernel_rfl) (fun Kc hKc => ?_)
    go_simp
    refine hKc.out _ _ (fun _ h => ⟨cell_al h.1 _, cell_al h.2.1 _, cell_al h.2.2.1 _, cell_al h.2.2.2 _⟩) ?_
    clear hKc Kc
    have HT3 := HT2.out.alloc (.cells (qdCells (bit, 3, 0, 0)).toArray 180)
    have HO3 := owned_below HO.out (below_new (.cells (qdCells (bit, 3, 0, 0)).toArray 180))
    refine wpAnyY_one (i := 9) rfl (by kernel_rfl) (fun Kc hKc => ?_)
    refine step_append_fresh rfl (.tmp 19) (.tmp 23) 120 rfl b 180 i0 _ 4 32 Tryz.underlying120 HI.out.1 HI.out.2.1 HI.out.2.2.1 HI.out.2.2.2 rfl (by decide) (wv k) _ _ (by simp [Act.eval]) HO3 ⟨wd.heap.size, 0, none⟩ 1 1 (qdCells (bit, 3, 0, 0)) (by simp [Act.eval]) rfl (cells_new4 wd.drew _ 180) (qd_one _) (by have := HN.out; unfold maxLen; omega) (by have := HN.out; omega) (Nat.le_of_lt HT3.lk.lt) ?_
    intro v wa o1 o2 o3
    refine hKc.out _ _ (fun h => absurd h (by decide)) ?_
    clear hKc Kc
    have HT4 := HT3.append hk (bit, 3, 0, 0) (v := v) (wa := wa) (by rw [regs_set]; exact o1) o2 o3
    rw [regs_set, setR_up] at HT4
    obtain ⟨HT5, y5, f5⟩ := HT4
    have HT6 : Hid (Mt w0 w (wa.setCell ⟨b, 10 + k * 7 + 5, none⟩ v) b c s (setR S k ⟨(S.regs k).wr, (S.regs k).kind, (S.regs k).plane, (S.regs k).step, true, (S.regs k).ways ++ [(bit, 3, 0, 0)], (S.regs k).weight⟩) (upV wv k v) #[.bool xw, .int .i64 xk, .int .i64 xp, .int .i64 xs, .bool true, .slice xa xn xc, .int .i64 xg] 3 0 0) := HT5
    obtain ⟨vo, vc, hv⟩ := owned_shape o1
    subst hv
    clear HT5 HT3 HO3 o1 o2 o3 HS HO HT2 HK
    simp only [Act.put]
    refine wpAnyY_pure (i := 10) 25 (v := .pointer (some ⟨b, 10 + k * 7, none⟩)) rfl rfl (by kernel_rfl) (by kernel_rfl) (by kernel_rfl) (fun _ _ _ h => h) (Or.inl ⟨by rfl, by (intro W _; go_simp)⟩) ?_
    simp only [Act.put]
    refine wpAnyY_pure (i := 11) 26 (v := .pointer (some ⟨b, 10 + k * 7 + 5, none⟩)) rfl rfl (by kernel_rfl) (by kernel_rfl) (by kernel_rfl) (fun _ _ _ h => h) (Or.inl ⟨by rfl, by (intro W _; go_simp)⟩) ?_
    simp only [Act.put]
    refine wpAnyY_one (i := 12) rfl (by kernel_rfl) (fun Kc hKc => ?_)
    go_simp
    refine hKc.out _ _ (fun h => absurd h (by decide)) ?_
    clear hKc Kc
    refine wpAnyY_done (by kernel_rfl) ?_ _
    have B1 := cell_block HT6.out.b1 6 (.int .i64 xg) rfl
    have R6 := HT6.out.lk.r6 hk
    rw [regs_set] at R6
    have F6 := HT6.out.lk.fz (10 + k * 7 + 6)
    have HU : Hid (∀ g : Int, g = max (S.regs k).weight xg → ∀ n, (∃ wv', Lk w0 (((wa.setCell ⟨b, 10 + k * 7 + 5, none⟩ (.slice vo ((S.regs k).ways.length + 1) vc)).setCell ⟨b, 10 + k * 7 + 6, none⟩ (.int .i64 g)).drewN n) b c s (setR S k (meetB (S.regs k) ⟨xw, xk, xp, xs, true, xl, xg⟩ bit)) wv') ∧ Below b w (((wa.setCell ⟨b, 10 + k * 7 + 5, none⟩ (.slice vo ((S.regs k).ways.length + 1) vc)).setCell ⟨b, 10 + k * 7 + 6, none⟩ (.int .i64 g)).drewN n)) := by
      intro g hg n
      subst hg
      have h1 := HT6.out.lk.putK (i := 6) hk (by omega) (v := .int .i64 (max (S.regs k).weight xg)) (meetB (S.regs k) ⟨xw, xk, xp, xs, true, xl, xg⟩ bit) (by rw [regs_set]; exact seven rfl rfl rfl rfl rfl rfl rfl) (by rw [regs_set]; rfl)
      rw [setR_up] at h1
      exact ⟨⟨_, h1.drewN n⟩, below_drewN (HT6.out.low.setCell (p := ⟨b, 10 + k * 7 + 6, none⟩) (Nat.le_refl b) _) n⟩
    clear HT6 y5 f5 HM HL HN HI
    generalize wa.setCell ⟨b, 10 + k * 7 + 5, none⟩ (.slice vo ((S.regs k).ways.length + 1) vc) = wz at *
    simp only at R6
    go_wp2_with fail
    by_cases hmx : (S.regs k).weight < xg
    · have hmy : decide ((S.regs k).weight < xg) = true := by simpa using hmx
      go_region
      go_wp2
      go_end0
      exact ⟨rfl, HU.out _ (by omega) 1⟩
    · have hmy : decide ((S.regs k).weight < xg) = false := by simpa using hmx
      go_region
      go_wp2
      go_end0
      exact ⟨rfl, HU.out _ (by omega) 1⟩

end Go.Proofs.YtnkfibahkmmnpaaGreat
