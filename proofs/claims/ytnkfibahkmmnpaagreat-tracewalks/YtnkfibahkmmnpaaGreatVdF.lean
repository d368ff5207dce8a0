/-
  The walk of the document's does: a meet.
-/
import Derived.Test.YtnkfibahkmmnpaaGreatVdE
import Derived.Test.YtnkfibahkmmnpaaGreatVrE
namespace Go.Proofs.YtnkfibahkmmnpaaGreat
open Go.RowKit

theorem cell_gr {W W2 : World} {r : Option Nat} {p : Addr} {v : Value} (hg : W.grownBy W2 r) (h : W.cell? p = some v) (hne : some p.block ≠ r) : W2.cell? p = some v := by
  have hlt := World.block_lt_of_cell? W p h
  unfold World.cell? at h ⊢
  rw [hg.block p.block hlt hne]
  exact h
theorem info90 : (Tryz.prog.info? 162).map (fun i => (i.zero, i.size, i.bytes)) = some (some (.agg #[.int .i64 0, .int .i64 0, .int .i64 0, .int .i64 0]), 4, 32) := by kernel_rfl
section
variable {w0 w : World} {b : Nat} {c : Cd} {s : Ls} {S : St} {wv : Nat → Value} {gr gk gw R P : Nat}
/-- A way more. -/
theorem Dl.append {wa : World} (h : Dl w0 w b c s S wv gr gk gw R P) {k : Nat} (hk : k < R) (q : Qd) {v : Value}
    (o1 : wa.ownsRow w0.heap.size 162 4 v ((S.regs k).ways.length + 1) (qdVals (S.regs k).ways ++ qdCells q)) (o2 : w.grownBy wa (wv k).ownBlock) (o3 : ∀ g, v.ownBlock = some g → some g = (wv k).ownBlock ∨ w.heap.size ≤ g) :
    Dl w0 (wa.setCell ⟨gr, k * 7 + 5, none⟩ v) b c s (setR S k (wayR (S.regs k) q)) (upV wv k v) gr gk gw R P ∧ wa.cell? ⟨gr, k * 7 + 5, none⟩ = some (wv k) ∧ wa.frozen? ⟨gr, k * 7 + 5, none⟩ = false := by
  have far : ∀ {x : Nat} {B : Array Value} {T : TypeId}, w.heap[x]? = some (.cells B T (0, 0)) → 162 ≠ T → wa.heap[x]? = some (.cells B T (0, 0)) := fun hx hne => by
    rw [o2.block _ (lt_block hx) (own_other (h.rows k hk) hx hne)]; exact hx
  have hgr := far h.regs (by decide)
  have hlow : Below w0.heap.size w0 wa := low_grown h.low o2 h.low.size (fun g hg => (own_lt (h.rows k hk) hg).2)
  have hrow : wa.ownsRow w0.heap.size 162 4 v (wayR (S.regs k) q).ways.length (qdVals (wayR (S.regs k) q).ways) := by
    show wa.ownsRow w0.heap.size 162 4 v ((S.regs k).ways ++ [q]).length (qdVals ((S.regs k).ways ++ [q]))
    rw [qdVals_snoc, List.length_append]; exact o1
  have hap : ∀ r, r < R → r ≠ k → v.ownBlock = none ∨ v.ownBlock ≠ (wv r).ownBlock := fun r hr hne => by
    cases hv : v.ownBlock with
    | none => exact .inl rfl
    | some g =>
      refine .inr fun e' => ?_
      rcases o3 g hv with h0 | h0
      · rcases h.apart k r hk hr (Ne.symm hne) with h1 | h1
        · rw [h1] at h0; cases h0
        · exact h1 (h0.symm.trans e')
      · have := (own_lt (h.rows r hr) e'.symm).1; omega
  have hda : Dl w0 wa b c s S (upV wv k v) gr gk gw R P → True := fun _ => trivial
  clear hda
  refine ⟨⟨?_, ?_, ?_, ?_, h.cd, hlow.setCell (p := ⟨gr, k * 7 + 5, none⟩) h.le.2.1 v, h.le, fun r hr => ?_, fun r r' hr hr' hne => ?_⟩, ?_, frozen_of_row _ _ _ _ _ hgr⟩
  · rw [heap_setOther _ hgr (far h.box (by decide)) (by decide)]; exact far h.box (by decide)
  · rw [heap_setCell_same _ _ _ _ _ _ hgr, rgC_set (S := S) (wv := wv) (R := R) (k := k) (i := 5) (v := v) (by omega) (wayR (S.regs k) q) v (seven rfl rfl rfl rfl rfl rfl rfl)]
  · rw [heap_setOther _ hgr (far h.kept (by decide)) (by decide)]; exact far h.kept (by decide)
  · rw [heap_setOther _ hgr (far h.wgt (by decide)) (by decide)]; exact far h.wgt (by decide)
  · show World.ownsRow _ _ _ _ (upV wv k v r) (updR S.regs k (wayR (S.regs k) q) r).ways.length (qdVals (updR S.regs k (wayR (S.regs k) q) r).ways)
    by_cases e : r = k
    · subst e; rw [updR_same, upV_same]; exact owned_setOther hrow hgr (by decide) v
    · rw [updR_ne _ _ e, upV_ne _ _ e]
      refine owned_setOther (owned_of_block (h.rows r hr) fun g cur hg hc => o2.block g (lt_block hc) (fun e' => ?_)) hgr (by decide) v
      rcases h.apart r k hr hk e with h0 | h0
      · rw [h0] at hg; cases hg
      · exact h0 (hg.trans e')
  · by_cases e : r = k
    · subst e
      rw [upV_same, upV_ne _ _ (Ne.symm hne)]
      exact hap r' hr' (Ne.symm hne)
    · rw [upV_ne _ _ e]
      by_cases e2 : r' = k
      · subst e2
        rw [upV_same]
        rcases hap r hr e with h0 | h0
        · by_cases h1 : (wv r).ownBlock = none
          · exact .inl h1
          · exact .inr (by rw [h0]; exact h1)
        · exact .inr (Ne.symm h0)
      · rw [upV_ne _ _ e2]; exact h.apart r r' hr hr' hne
  · rw [cell_block hgr _ _ (rgC_get S wv R hk (by omega))]; rfl
/-- The look, and the boxes of does. -/
structure Mf (w0 wd : World) (b : Nat) (c : Cd) (s : Ls) (S : St) (wv : Nat → Value) (gr gk gw R P gb g5 g6 : Nat) (I X : Array Value) (q : Qd) : Prop where
  dl : Dl w0 wd b c s S wv gr gk gw R P
  b3 : wd.heap[gb]? = some (.cells I 65 (0, 0))
  b5 : wd.heap[g5]? = some (.cells X 142 (0, 0))
  b6 : wd.heap[g6]? = some (.cells (qdCells q).toArray 162 (0, 0))
  ne : g5 ≠ gr
  own : ∀ r, r < R → (wv r).ownBlock ≠ some g6
theorem mf_start (h : Dl w0 w b c s S wv gr gk gw R P) (I X : Array Value) (q : Qd) : Mf w0 (((w.alloc (.cells I 65)).alloc (.cells X 142)).alloc (.cells (qdCells q).toArray 162)).drew b c s S wv gr gk gw R P w.heap.size (w.heap.size + 1) (w.heap.size + 1 + 1) I X q := by
  have key : ∀ {W : World} {b : Nat} {o : Obj}, W.heap.size = b → (W.alloc o).heap[b]? = some o := fun h => by rw [← h]; exact heap_alloc_new _ _
  refine ⟨(((h.alloc _).alloc _).alloc _).drew, ?_, ?_, ?_, by have := lt_block h.regs; omega, fun r hr e => ?_⟩
  · show (((w.alloc (.cells I 65)).alloc (.cells X 142)).alloc (.cells (qdCells q).toArray 162)).heap[w.heap.size]? = _
    rw [(below_new _).block _ (by simp; omega), (below_new _).block _ (by simp)]; exact key rfl
  · show (((w.alloc (.cells I 65)).alloc (.cells X 142)).alloc (.cells (qdCells q).toArray 162)).heap[w.heap.size + 1]? = _
    rw [(below_new _).block _ (by simp)]; exact key (by simp)
  · exact key (by simp)
  · have := (own_lt (h.rows r hr) e).1; omega
theorem Mf.next {w2 : World} {gb g5 g6 : Nat} {I X : Array Value} {q : Qd} (h : Mf w0 w b c s S wv gr gk gw R P gb g5 g6 I X q) (hb : Below w.heap.size w w2) : Mf w0 w2 b c s S wv gr gk gw R P gb g5 g6 I X q :=
  ⟨h.dl.next hb, row_next h.b3 hb, row_next h.b5 hb, row_next h.b6 hb, h.ne, h.own⟩
theorem Mf.append {wa : World} {gb g5 g6 : Nat} {I X : Array Value} {q : Qd} (h : Mf w0 w b c s S wv gr gk gw R P gb g5 g6 I X q) {k : Nat} (hk : k < R) (q2 : Qd) {v : Value}
    (o1 : wa.ownsRow w0.heap.size 162 4 v ((S.regs k).ways.length + 1) (qdVals (S.regs k).ways ++ qdCells q2)) (o2 : w.grownBy wa (wv k).ownBlock) (o3 : ∀ g, v.ownBlock = some g → some g = (wv k).ownBlock ∨ w.heap.size ≤ g) :
    (Dl w0 (wa.setCell ⟨gr, k * 7 + 5, none⟩ v) b c s (setR S k (wayR (S.regs k) q2)) (upV wv k v) gr gk gw R P ∧ (wa.setCell ⟨gr, k * 7 + 5, none⟩ v).heap[gb]? = some (.cells I 65 (0, 0)) ∧ (wa.setCell ⟨gr, k * 7 + 5, none⟩ v).heap[g5]? = some (.cells X 142 (0, 0))) ∧ wa.cell? ⟨gr, k * 7 + 5, none⟩ = some (wv k) ∧ wa.frozen? ⟨gr, k * 7 + 5, none⟩ = false := by
  obtain ⟨h1, h2, h3⟩ := h.dl.append hk q2 o1 o2 o3
  have far : ∀ {x : Nat} {B : Array Value} {T : TypeId}, w.heap[x]? = some (.cells B T (0, 0)) → 162 ≠ T → wa.heap[x]? = some (.cells B T (0, 0)) := fun hx hne => by
    rw [o2.block _ (lt_block hx) (own_other (h.dl.rows k hk) hx hne)]; exact hx
  refine ⟨⟨h1, ?_, ?_⟩, h2, h3⟩
  · rw [heap_setOther _ (far h.dl.regs (by decide)) (far h.b3 (by decide)) (by decide)]; exact far h.b3 (by decide)
  · rw [Below.heap_setCell _ _ _ _ h.ne]; exact far h.b5 (by decide)
theorem Mf.keep {wa : World} {gb g5 g6 : Nat} {I X : Array Value} {q : Qd} (h : Mf w0 w b c s S wv gr gk gw R P gb g5 g6 I X q) {k : Nat} (hk : k < R) (o2 : w.grownBy wa (wv k).ownBlock) :
    (∀ i v, w.cell? ⟨b, i, none⟩ = some v → wa.cell? ⟨b, i, none⟩ = some v) ∧ (∀ i v, w.cell? ⟨gb, i, none⟩ = some v → wa.cell? ⟨gb, i, none⟩ = some v) ∧ (∀ i v, w.cell? ⟨gr, i, none⟩ = some v → wa.cell? ⟨gr, i, none⟩ = some v) ∧ (∀ i v, w.cell? ⟨g6, i, none⟩ = some v → wa.cell? ⟨g6, i, none⟩ = some v) :=
  ⟨fun i v hv => cell_gr o2 hv (own_other (h.dl.rows k hk) h.dl.box (by decide)), fun i v hv => cell_gr o2 hv (own_other (h.dl.rows k hk) h.b3 (by decide)), fun i v hv => cell_gr o2 hv (own_other (h.dl.rows k hk) h.dl.regs (by decide)), fun i v hv => cell_gr o2 hv (fun e => h.own k hk e.symm)⟩
theorem past6 (S : St) (x y z : Nat) : pastP S (6, x, y, z) = setR S x (meetB (S.regs x) (S.regs y) z) := by simp [pastP]
set_option maxRecDepth 10000 in
set_option maxHeartbeats 1000000 in
theorem ddoes6 (x y z : Nat) (h : Dl w0 w b c s S wv gr gk gw R P) (hn : x < R) (hy : y < R) (hwx : (S.regs x).wr = true) (hwy : (S.regs y).wr = true) (hln : (S.regs x).ways.length ≤ 1000) :
    Calls Tryz.prog 68 #[.pointer (some ⟨b, 0, none⟩), .agg #[.int .i64 6, .int .i64 x, .int .i64 y, .int .i64 z]] w fun e w' => e = .returned (.tuple #[]) ∧ ∃ wv', Dl w0 w' b c s (pastP S (6, x, y, z)) wv' gr gk gw R P := by
  have hlb := lt_block h.box
  have hlr := lt_block h.regs
  have k10 := h.cell 10 (v := .slice (some ⟨gr, 0, none⟩) R R) rfl
  have r0 : w.cell? ⟨gr, y * 7, none⟩ = some (.bool true) := h.reg y 0 hy (by omega) (by show Value.bool (S.regs y).wr = _; rw [hwy])
  have r1 : w.cell? ⟨gr, y * 7 + 1, none⟩ = some (.bool (!(S.regs y).met)) := h.reg y 1 hy (by omega) (by show Value.bool ((S.regs y).wr && !(S.regs y).met) = _; rw [hwy]; rfl)
  have r2 := h.reg y 2 hy (by omega) (v := .int .i64 (S.regs y).kind) rfl
  have r3 := h.reg y 3 hy (by omega) (v := .int .i64 (S.regs y).plane) rfl
  have r4 := h.reg y 4 hy (by omega) (v := .int .i64 (S.regs y).step) rfl
  have r5 := h.reg y 5 hy (by omega) (v := wv y) rfl
  have r6 := h.reg y 6 hy (by omega) (v := .int .i64 (S.regs y).weight) rfl
  obtain ⟨ya, yc, hya⟩ := owned_shape (h.rows y hy)
  rw [hya] at r5
  have HP : Hid (pastP S (6, x, y, z) = _) := past6 S x y z
  have HD : Hid (Dl w0 w b c s S wv gr gk gw R P) := h
  have HLn : Hid ((S.regs x).ways.length ≤ 1000) := hln
  have HWx : Hid ((S.regs x).wr = true) := hwx
  clear h hln hwx hwy hya
  generalize hry : S.regs y = ry at *
  have HRy : Hid (S.regs y = ry) := hry
  clear hry
  obtain ⟨xw, xk, xp, xs, xm, xl, xg⟩ := ry
  simp only at r0 r1 r2 r3 r4 r5 r6 HP
  go_enter Tryz.func68, Tryz.ntmps68
  go_wp2_with fail
  go_region
  cases xm
  · have HM : Hid (meetB (S.regs x) ⟨xw, xk, xp, xs, false, xl, xg⟩ z = ⟨(S.regs x).wr, (S.regs x).kind, (S.regs x).plane, (S.regs x).step, true, (S.regs x).ways ++ [((z : Int), xk, xp, xs)], max (S.regs x).weight xg⟩) := rfl
    have HT0 := mf_start HD.out #[.int .i64 6, .int .i64 x, .int .i64 y, .int .i64 z] #[.bool true, .bool true, .int .i64 xk, .int .i64 xp, .int .i64 xs, .slice ya xl.length yc, .int .i64 xg] ((z : Int), xk, xp, xs)
    have HT : Hid _ := HT0
    go_upto_region 21 with (fail)
    clear HT0 k10 r0 r1 r2 r3 r4 r5 r6
    simp only [qdCells] at HT
    generalize (((w.alloc (.cells #[.int .i64 6, .int .i64 x, .int .i64 y, .int .i64 z] 65)).alloc (.cells #[.bool true, .bool true, .int .i64 xk, .int .i64 xp, .int .i64 xs, .slice ya xl.length yc, .int .i64 xg] 142)).alloc (.cells #[.int .i64 z, .int .i64 (xk), .int .i64 (xp), .int .i64 (xs)] 162)).drew = wd at *
    have HTd := HT.out.next (below_drewN (Below.refl _ _) 1)
    have HT2 : Hid (Mf w0 wd.drew b c s S wv gr gk gw R P w.heap.size (w.heap.size + 1) (w.heap.size + 1 + 1) #[.int .i64 6, .int .i64 x, .int .i64 y, .int .i64 z] #[.bool true, .bool true, .int .i64 xk, .int .i64 xp, .int .i64 xs, .slice ya xl.length yc, .int .i64 xg] ((z : Int), xk, xp, xs)) := HTd
    have hgl : w.heap.size < wd.heap.size := lt_block HT.out.b3
    clear HTd HT
    generalize w.heap.size = gb at *
    have HS : Hid (wd.drew.cell? ⟨b, 10, none⟩ = some (.slice (some ⟨gr, 0, none⟩) R R) ∧ wd.drew.cell? ⟨gb, 1, none⟩ = some (.int .i64 x) ∧ wd.drew.cell? ⟨gr, x * 7 + 5, none⟩ = some (wv x) ∧ wd.drew.cell? ⟨gb + 1 + 1, 0, none⟩ = some (.int .i64 z) ∧ wd.drew.cell? ⟨gb + 1 + 1, 1, none⟩ = some (.int .i64 xk) ∧ wd.drew.cell? ⟨gb + 1 + 1, 2, none⟩ = some (.int .i64 xp) ∧ wd.drew.cell? ⟨gb + 1 + 1, 3, none⟩ = some (.int .i64 xs)) :=
      ⟨HT2.out.dl.cell 10 rfl, cell_block HT2.out.b3 1 _ rfl, HT2.out.dl.reg x 5 hn (by omega) rfl, cell_block HT2.out.b6 0 _ rfl, cell_block HT2.out.b6 1 _ rfl, cell_block HT2.out.b6 2 _ rfl, cell_block HT2.out.b6 3 _ rfl⟩
    obtain ⟨i0, hi, hz0, hz1, hz2⟩ := info_parts info90
    have HI : Hid (Tryz.prog.info? 162 = some i0 ∧ i0.zero = some (.agg #[.int .i64 0, .int .i64 0, .int .i64 0, .int .i64 0]) ∧ i0.size = 4 ∧ i0.bytes = 32) := ⟨hi, hz0, hz1, hz2⟩
    clear hi hz0 hz1 hz2
    refine wp_region_Y (fun j => [20].contains j) (fun W : World => W.cell? ⟨b, 10, none⟩ = some (.slice (some ⟨gr, 0, none⟩) R R) ∧ W.cell? ⟨gb, 1, none⟩ = some (.int .i64 x) ∧ W.cell? ⟨gr, x * 7 + 5, none⟩ = some (wv x) ∧ W.cell? ⟨gb + 1 + 1, 0, none⟩ = some (.int .i64 z) ∧ W.cell? ⟨gb + 1 + 1, 1, none⟩ = some (.int .i64 xk) ∧ W.cell? ⟨gb + 1 + 1, 2, none⟩ = some (.int .i64 xp) ∧ W.cell? ⟨gb + 1 + 1, 3, none⟩ = some (.int .i64 xs)) (by kernel_rfl) ?_
    refine wpAnyY_pure (i := 0) 112 (v := .pointer (some ⟨b, 0, none⟩)) rfl rfl (by kernel_rfl) (by kernel_rfl) (by kernel_rfl) (fun _ _ _ h => h) (Or.inl ⟨by rfl, by (intro W _; go_simp)⟩) ?_
    simp only [Act.put, List.setIfInBounds_toArray, List.set_cons_succ, List.set_cons_zero]
    refine wpAnyY_pure (i := 1) 113 (v := .pointer (some ⟨b, 0, none⟩)) rfl rfl (by kernel_rfl) (by kernel_rfl) (by kernel_rfl) (fun _ _ _ h => h) (Or.inl ⟨by rfl, by (intro W _; go_simp)⟩) ?_
    simp only [Act.put, List.setIfInBounds_toArray, List.set_cons_succ, List.set_cons_zero]
    refine wpAnyY_pure (i := 2) 114 (v := .pointer (some ⟨b, 10, none⟩)) rfl rfl (by kernel_rfl) (by kernel_rfl) (by kernel_rfl) (fun _ _ _ h => h) (Or.inl ⟨by rfl, by (intro W _; go_simp)⟩) ?_
    simp only [Act.put, List.setIfInBounds_toArray, List.set_cons_succ, List.set_cons_zero]
    refine wpAnyY_takeD (i := 3) 115 (v := .slice (some ⟨gr, 0, none⟩) R R) rfl rfl (by kernel_rfl) (by kernel_rfl) (late_of (by kernel_rfl)) (by kernel_rfl) (by kernel_rfl) (fun _ _ _ h => h) HS.out (Or.inl ⟨by rfl, by (intro W hW; obtain ⟨e0, e1, e2, e3, e4, e5, e6⟩ := hW; go_simp)⟩) ?_
    simp only [Act.put, List.setIfInBounds_toArray, List.set_cons_succ, List.set_cons_zero]
    refine wpAnyY_pure (i := 4) 116 (v := .pointer (some ⟨gb, 1, none⟩)) rfl rfl (by kernel_rfl) (by kernel_rfl) (by kernel_rfl) (fun _ _ _ h => h) (Or.inl ⟨by rfl, by (intro W _; go_simp)⟩) ?_
    simp only [Act.put, List.setIfInBounds_toArray, List.set_cons_succ, List.set_cons_zero]
    refine wpAnyY_takeD (i := 5) 117 (v := .int .i64 x) rfl rfl (by kernel_rfl) (by kernel_rfl) (late_of (by kernel_rfl)) (by kernel_rfl) (by kernel_rfl) (fun _ _ _ h => h) HS.out (Or.inl ⟨by rfl, by (intro W hW; obtain ⟨e0, e1, e2, e3, e4, e5, e6⟩ := hW; go_simp)⟩) ?_
    simp only [Act.put, List.setIfInBounds_toArray, List.set_cons_succ, List.set_cons_zero]
    refine wpAnyY_pure (i := 6) 118 (v := .pointer (some ⟨b, 0, none⟩)) rfl rfl (by kernel_rfl) (by kernel_rfl) (by kernel_rfl) (fun _ _ _ h => h) (Or.inl ⟨by rfl, by (intro W _; go_simp)⟩) ?_
    simp only [Act.put, List.setIfInBounds_toArray, List.set_cons_succ, List.set_cons_zero]
    refine wpAnyY_pure (i := 7) 119 (v := .pointer (some ⟨b, 0, none⟩)) rfl rfl (by kernel_rfl) (by kernel_rfl) (by kernel_rfl) (fun _ _ _ h => h) (Or.inl ⟨by rfl, by (intro W _; go_simp)⟩) ?_
    simp only [Act.put, List.setIfInBounds_toArray, List.set_cons_succ, List.set_cons_zero]
    refine wpAnyY_pure (i := 8) 120 (v := .pointer (some ⟨b, 10, none⟩)) rfl rfl (by kernel_rfl) (by kernel_rfl) (by kernel_rfl) (fun _ _ _ h => h) (Or.inl ⟨by rfl, by (intro W _; go_simp)⟩) ?_
    simp only [Act.put, List.setIfInBounds_toArray, List.set_cons_succ, List.set_cons_zero]
    refine wpAnyY_takeD (i := 9) 121 (v := .slice (some ⟨gr, 0, none⟩) R R) rfl rfl (by kernel_rfl) (by kernel_rfl) (late_of (by kernel_rfl)) (by kernel_rfl) (by kernel_rfl) (fun _ _ _ h => h) HS.out (Or.inl ⟨by rfl, by (intro W hW; obtain ⟨e0, e1, e2, e3, e4, e5, e6⟩ := hW; go_simp)⟩) ?_
    simp only [Act.put, List.setIfInBounds_toArray, List.set_cons_succ, List.set_cons_zero]
    refine wpAnyY_pure (i := 10) 122 (v := .pointer (some ⟨gb, 1, none⟩)) rfl rfl (by kernel_rfl) (by kernel_rfl) (by kernel_rfl) (fun _ _ _ h => h) (Or.inl ⟨by rfl, by (intro W _; go_simp)⟩) ?_
    simp only [Act.put, List.setIfInBounds_toArray, List.set_cons_succ, List.set_cons_zero]
    refine wpAnyY_takeD (i := 11) 123 (v := .int .i64 x) rfl rfl (by kernel_rfl) (by kernel_rfl) (late_of (by kernel_rfl)) (by kernel_rfl) (by kernel_rfl) (fun _ _ _ h => h) HS.out (Or.inl ⟨by rfl, by (intro W hW; obtain ⟨e0, e1, e2, e3, e4, e5, e6⟩ := hW; go_simp)⟩) ?_
    simp only [Act.put, List.setIfInBounds_toArray, List.set_cons_succ, List.set_cons_zero]
    refine wpAnyY_pure (i := 12) 124 (v := .pointer (some ⟨gr, x * 7, none⟩)) rfl rfl (by kernel_rfl) (by kernel_rfl) (by kernel_rfl) (fun _ _ _ h => h) (Or.inl ⟨by rfl, by (intro W _; go_simp)⟩) ?_
    simp only [Act.put, List.setIfInBounds_toArray, List.set_cons_succ, List.set_cons_zero]
    refine wpAnyY_pure (i := 13) 125 (v := .pointer (some ⟨gr, x * 7 + 5, none⟩)) rfl rfl (by kernel_rfl) (by kernel_rfl) (by kernel_rfl) (fun _ _ _ h => h) (Or.inl ⟨by rfl, by (intro W _; go_simp)⟩) ?_
    simp only [Act.put, List.setIfInBounds_toArray, List.set_cons_succ, List.set_cons_zero]
    refine wpAnyY_takeD (i := 14) 126 (v := wv x) rfl rfl (by kernel_rfl) (by kernel_rfl) (late_of (by kernel_rfl)) (by kernel_rfl) (by kernel_rfl) (fun _ _ _ h => h) HS.out (Or.inl ⟨by rfl, by (intro W hW; obtain ⟨e0, e1, e2, e3, e4, e5, e6⟩ := hW; go_simp)⟩) ?_
    simp only [Act.put, List.setIfInBounds_toArray, List.set_cons_succ, List.set_cons_zero]
    refine wpAnyY_takeD (i := 15) 127 (v := .agg #[.int .i64 z, .int .i64 xk, .int .i64 xp, .int .i64 xs]) rfl rfl (by kernel_rfl) (by kernel_rfl) (late_of (by kernel_rfl)) (by kernel_rfl) (by kernel_rfl) (fun _ _ _ h => h) HS.out (Or.inl ⟨by rfl, by (intro W hW; obtain ⟨e0, e1, e2, e3, e4, e5, e6⟩ := hW; go_simp)⟩) ?_
    simp only [Act.put, List.setIfInBounds_toArray, List.set_cons_succ, List.set_cons_zero]
    refine wpAnyY_one (i := 16) rfl (by kernel_rfl) (fun Kc hKc => ?_)
    go_simp
    refine hKc.out _ _ (fun _ h => ⟨cell_al h.1 _, cell_al h.2.1 _, cell_al h.2.2.1 _, cell_al h.2.2.2.1 _, cell_al h.2.2.2.2.1 _, cell_al h.2.2.2.2.2.1 _, cell_al h.2.2.2.2.2.2 _⟩) ?_
    clear hKc Kc
    have HT3 := HT2.out.next (below_new (.cells (qdCells ((z : Int), xk, xp, xs)).toArray 162))
    refine wpAnyY_one (i := 17) rfl (by kernel_rfl) (fun Kc hKc => ?_)
    refine step_append_fresh rfl (.tmp 126) (.tmp 128) 140 rfl w0.heap.size 162 i0 _ 4 32 Tryz.underlying140 HI.out.1 HI.out.2.1 HI.out.2.2.1 HI.out.2.2.2 rfl (by decide) (wv x) _ _ (by simp [Act.eval]) (HT3.dl.rows x hn) ⟨wd.heap.size, 0, none⟩ 1 1 (qdCells ((z : Int), xk, xp, xs)) (by simp [Act.eval]) rfl (cells_new4 wd.drew _ 162) (qd_one _) (by have := HLn.out; unfold maxLen; omega) (by have := HLn.out; omega) HT3.dl.low.size ?_
    intro v wa o1 o2 o3
    obtain ⟨p1, p2, p3, p4⟩ := HT3.keep hn o2
    refine hKc.out _ _ (fun _ h => ⟨p1 _ _ h.1, p2 _ _ h.2.1, p3 _ _ h.2.2.1, p4 _ _ h.2.2.2.1, p4 _ _ h.2.2.2.2.1, p4 _ _ h.2.2.2.2.2.1, p4 _ _ h.2.2.2.2.2.2⟩) ?_
    clear hKc Kc p1 p2 p3 p4
    have HT4 := HT3.append hn ((z : Int), xk, xp, xs) (v := v) (wa := wa) o1 o2 o3
    obtain ⟨HT5, y5, f5⟩ := HT4
    have HT6 : Hid (Dl w0 (wa.setCell ⟨gr, x * 7 + 5, none⟩ v) b c s (setR S x (wayR (S.regs x) ((z : Int), xk, xp, xs))) (upV wv x v) gr gk gw R P ∧ (wa.setCell ⟨gr, x * 7 + 5, none⟩ v).heap[gb]? = some (.cells #[.int .i64 6, .int .i64 x, .int .i64 y, .int .i64 z] 65 (0, 0)) ∧ (wa.setCell ⟨gr, x * 7 + 5, none⟩ v).heap[gb + 1]? = some (.cells #[.bool true, .bool true, .int .i64 xk, .int .i64 xp, .int .i64 xs, .slice ya xl.length yc, .int .i64 xg] 142 (0, 0))) := HT5
    obtain ⟨vo, vc, hv⟩ := owned_shape o1
    subst hv
    clear HT5 HT3 o1 o2 o3 HS HT2
    simp only [Act.put]
    refine wpAnyY_pure (i := 18) 130 (v := .pointer (some ⟨gr, x * 7, none⟩)) rfl rfl (by kernel_rfl) (by kernel_rfl) (by kernel_rfl) (fun _ _ _ h => h) (Or.inl ⟨by rfl, by (intro W _; go_simp)⟩) ?_
    simp only [Act.put]
    refine wpAnyY_pure (i := 19) 131 (v := .pointer (some ⟨gr, x * 7 + 5, none⟩)) rfl rfl (by kernel_rfl) (by kernel_rfl) (by kernel_rfl) (fun _ _ _ h => h) (Or.inl ⟨by rfl, by (intro W _; go_simp)⟩) ?_
    simp only [Act.put]
    refine wpAnyY_one (i := 20) rfl (by kernel_rfl) (fun Kc hKc => ?_)
    go_simp
    refine hKc.out _ _ (fun h => absurd h (by decide)) ?_
    clear hKc Kc
    refine wpAnyY_done (by kernel_rfl) ?_ _
    clear y5 f5 HI
    generalize wa.setCell ⟨gr, x * 7 + 5, none⟩ (.slice vo ((S.regs x).ways.length + 1) vc) = wz at *
    have k10 := HT6.out.1.cell 10 (v := .slice (some ⟨gr, 0, none⟩) R R) rfl
    have b1 := cell_block HT6.out.2.1 1 (.int .i64 x) rfl
    have q1 := HT6.out.1.reg x 1 hn (by omega) rfl
    have rf := HT6.out.1.rfz
    have HU0 := HT6.out.1.putK (i := 1) hn (by omega) (v := .bool false) ⟨(S.regs x).wr, (S.regs x).kind, (S.regs x).plane, (S.regs x).step, true, (S.regs x).ways ++ [((z : Int), xk, xp, xs)], (S.regs x).weight⟩ (by rw [regs_set]; exact seven rfl (by show Value.bool false = .bool ((S.regs x).wr && !true); rw [Bool.not_true, Bool.and_false]) rfl rfl rfl rfl rfl) (by rw [regs_set]; rfl)
    rw [setR_up] at HU0
    have HU1 : Hid (Dl w0 (wz.setCell ⟨gr, x * 7 + 1, none⟩ (.bool false)).drew b c s _ _ gr gk gw R P ∧ (wz.setCell ⟨gr, x * 7 + 1, none⟩ (.bool false)).drew.heap[gb]? = some (.cells #[.int .i64 6, .int .i64 x, .int .i64 y, .int .i64 z] 65 (0, 0)) ∧ (wz.setCell ⟨gr, x * 7 + 1, none⟩ (.bool false)).drew.heap[gb + 1]? = some (.cells #[.bool true, .bool true, .int .i64 xk, .int .i64 xp, .int .i64 xs, .slice ya xl.length yc, .int .i64 xg] 142 (0, 0))) :=
      ⟨HU0.drew, (heap_setOther _ HT6.out.1.regs HT6.out.2.1 (by decide)).trans HT6.out.2.1, (Below.heap_setCell _ _ _ _ (show gb + 1 ≠ gr by omega)).trans HT6.out.2.2⟩
    clear HU0 HT6
    go_wp2_with fail
    go_region
    clear k10 b1 q1 rf
    go_upto_region 23 with (fail)
    generalize (wz.setCell ⟨gr, x * 7 + 1, none⟩ (.bool false)).drew = wy at *
    have k10 := HU1.out.1.cell 10 (v := .slice (some ⟨gr, 0, none⟩) R R) rfl
    have b1 := cell_block HU1.out.2.1 1 (.int .i64 x) rfl
    have b6 := cell_block HU1.out.2.2 6 (.int .i64 xg) rfl
    have q6 : wy.cell? ⟨gr, x * 7 + 6, none⟩ = some (.int .i64 (S.regs x).weight) := HU1.out.1.reg x 6 hn (by omega) (by rw [regs_set]; rfl)
    have HF : Hid (∀ n m, max (S.regs x).weight xg = (S.regs x).weight → ∃ wv', Dl w0 ((wy.drewN n).drewN m) b c s (setR S x (meetB (S.regs x) ⟨xw, xk, xp, xs, false, xl, xg⟩ z)) wv' gr gk gw R P) := fun n m he => by
      rw [HM.out, he]
      exact ⟨_, (HU1.out.1.next (below_drewN (Below.refl _ _) n)).next (below_drewN (Below.refl _ _) m)⟩
    have HG : Hid (∀ W : World, Below wy.heap.size wy W → max (S.regs x).weight xg = xg → W.cell? ⟨b, 10, none⟩ = some (.slice (some ⟨gr, 0, none⟩) R R) ∧ W.cell? ⟨gb, 1, none⟩ = some (.int .i64 x) ∧ W.cell? ⟨gb + 1, 6, none⟩ = some (.int .i64 xg) ∧ W.cell? ⟨gr, x * 7 + 6, none⟩ = some (.int .i64 (S.regs x).weight) ∧ W.frozen? ⟨gr, x * 7 + 6, none⟩ = false ∧ ∃ wv', Dl w0 (W.setCell ⟨gr, x * 7 + 6, none⟩ (.int .i64 xg)).drew b c s (setR S x (meetB (S.regs x) ⟨xw, xk, xp, xs, false, xl, xg⟩ z)) wv' gr gk gw R P) := fun W hW he => by
      have hd := HU1.out.1.next hW
      have h1 := hd.putK (i := 6) hn (by omega) (v := .int .i64 xg) (meetB (S.regs x) ⟨xw, xk, xp, xs, false, xl, xg⟩ z) (by rw [regs_set, HM.out, he]; exact seven rfl rfl rfl rfl rfl rfl rfl) (by rw [regs_set]; rfl)
      rw [setR_up] at h1
      exact ⟨cell_bl hW k10, cell_bl hW b1, cell_bl hW b6, cell_bl hW q6, hd.rfz _, _, h1.drew⟩
    clear HU1
    generalize (S.regs x).weight = gx at *
    by_cases hmx : gx < xg
    · have hmy : decide (gx < xg) = true := by simpa using hmx
      have hmm : max gx xg = xg := by omega
      clear hmx
      go_quiet (fail)
      obtain ⟨k10', b1', b6', q6', f6', wv', hfin⟩ := HG.out (wy.drewN nq) (below_drewN (Below.refl _ _) nq) hmm
      have HFin : Hid (Dl w0 ((wy.drewN nq).setCell ⟨gr, x * 7 + 6, none⟩ (.int .i64 xg)).drew b c s (setR S x (meetB (S.regs x) ⟨xw, xk, xp, xs, false, xl, xg⟩ z)) wv' gr gk gw R P) := hfin
      clear hfin HF HG k10 b1 b6 q6 hmm
      generalize wy.drewN nq = wq at *
      go_wp2_with fail
      go_region
      go_wp2
      go_end0
      exact ⟨rfl, _, by rw [HP.out]; exact HFin.out⟩
    · have hmy : decide (gx < xg) = false := by simpa using hmx
      have hmm : max gx xg = gx := by omega
      clear hmx
      go_quiet (fail)
      obtain ⟨wv', hfin⟩ := HF.out nq 0 hmm
      have HFin : Hid (Dl w0 (wy.drewN nq) b c s (setR S x (meetB (S.regs x) ⟨xw, xk, xp, xs, false, xl, xg⟩ z)) wv' gr gk gw R P) := hfin
      clear hfin HF HG k10 b1 b6 q6 hmm
      generalize wy.drewN nq = wq at *
      go_wp2
      go_end0
      exact ⟨rfl, _, by rw [HP.out]; exact HFin.out⟩
  · have HM : Hid (meetB (S.regs x) ⟨xw, xk, xp, xs, true, xl, xg⟩ z = ⟨(S.regs x).wr, (S.regs x).kind, (S.regs x).plane, (S.regs x).step, true, (S.regs x).ways ++ [((z : Int), 3, 0, 0)], max (S.regs x).weight xg⟩) := rfl
    have HT0 := mf_start HD.out #[.int .i64 6, .int .i64 x, .int .i64 y, .int .i64 z] #[.bool true, .bool false, .int .i64 xk, .int .i64 xp, .int .i64 xs, .slice ya xl.length yc, .int .i64 xg] ((z : Int), 3, 0, 0)
    have HT : Hid _ := HT0
    go_upto_region 21 with (fail)
    clear HT0 k10 r0 r1 r2 r3 r4 r5 r6
    simp only [qdCells] at HT
    generalize (((w.alloc (.cells #[.int .i64 6, .int .i64 x, .int .i64 y, .int .i64 z] 65)).alloc (.cells #[.bool true, .bool false, .int .i64 xk, .int .i64 xp, .int .i64 xs, .slice ya xl.length yc, .int .i64 xg] 142)).alloc (.cells #[.int .i64 z, .int .i64 (3), .int .i64 (0), .int .i64 (0)] 162)).drew = wd at *
    have HTd := HT.out.next (below_drewN (Below.refl _ _) 1)
    have HT2 : Hid (Mf w0 wd.drew b c s S wv gr gk gw R P w.heap.size (w.heap.size + 1) (w.heap.size + 1 + 1) #[.int .i64 6, .int .i64 x, .int .i64 y, .int .i64 z] #[.bool true, .bool false, .int .i64 xk, .int .i64 xp, .int .i64 xs, .slice ya xl.length yc, .int .i64 xg] ((z : Int), 3, 0, 0)) := HTd
    have hgl : w.heap.size < wd.heap.size := lt_block HT.out.b3
    clear HTd HT
    generalize w.heap.size = gb at *
    have HS : Hid (wd.drew.cell? ⟨b, 10, none⟩ = some (.slice (some ⟨gr, 0, none⟩) R R) ∧ wd.drew.cell? ⟨gb, 1, none⟩ = some (.int .i64 x) ∧ wd.drew.cell? ⟨gr, x * 7 + 5, none⟩ = some (wv x) ∧ wd.drew.cell? ⟨gb + 1 + 1, 0, none⟩ = some (.int .i64 z) ∧ wd.drew.cell? ⟨gb + 1 + 1, 1, none⟩ = some (.int .i64 3) ∧ wd.drew.cell? ⟨gb + 1 + 1, 2, none⟩ = some (.int .i64 0) ∧ wd.drew.cell? ⟨gb + 1 + 1, 3, none⟩ = some (.int .i64 0)) :=
      ⟨HT2.out.dl.cell 10 rfl, cell_block HT2.out.b3 1 _ rfl, HT2.out.dl.reg x 5 hn (by omega) rfl, cell_block HT2.out.b6 0 _ rfl, cell_block HT2.out.b6 1 _ rfl, cell_block HT2.out.b6 2 _ rfl, cell_block HT2.out.b6 3 _ rfl⟩
    obtain ⟨i0, hi, hz0, hz1, hz2⟩ := info_parts info90
    have HI : Hid (Tryz.prog.info? 162 = some i0 ∧ i0.zero = some (.agg #[.int .i64 0, .int .i64 0, .int .i64 0, .int .i64 0]) ∧ i0.size = 4 ∧ i0.bytes = 32) := ⟨hi, hz0, hz1, hz2⟩
    clear hi hz0 hz1 hz2
    refine wp_region_Y (fun j => [20].contains j) (fun W : World => W.cell? ⟨b, 10, none⟩ = some (.slice (some ⟨gr, 0, none⟩) R R) ∧ W.cell? ⟨gb, 1, none⟩ = some (.int .i64 x) ∧ W.cell? ⟨gr, x * 7 + 5, none⟩ = some (wv x) ∧ W.cell? ⟨gb + 1 + 1, 0, none⟩ = some (.int .i64 z) ∧ W.cell? ⟨gb + 1 + 1, 1, none⟩ = some (.int .i64 3) ∧ W.cell? ⟨gb + 1 + 1, 2, none⟩ = some (.int .i64 0) ∧ W.cell? ⟨gb + 1 + 1, 3, none⟩ = some (.int .i64 0)) (by kernel_rfl) ?_
    refine wpAnyY_pure (i := 0) 112 (v := .pointer (some ⟨b, 0, none⟩)) rfl rfl (by kernel_rfl) (by kernel_rfl) (by kernel_rfl) (fun _ _ _ h => h) (Or.inl ⟨by rfl, by (intro W _; go_simp)⟩) ?_
    simp only [Act.put, List.setIfInBounds_toArray, List.set_cons_succ, List.set_cons_zero]
    refine wpAnyY_pure (i := 1) 113 (v := .pointer (some ⟨b, 0, none⟩)) rfl rfl (by kernel_rfl) (by kernel_rfl) (by kernel_rfl) (fun _ _ _ h => h) (Or.inl ⟨by rfl, by (intro W _; go_simp)⟩) ?_
    simp only [Act.put, List.setIfInBounds_toArray, List.set_cons_succ, List.set_cons_zero]
    refine wpAnyY_pure (i := 2) 114 (v := .pointer (some ⟨b, 10, none⟩)) rfl rfl (by kernel_rfl) (by kernel_rfl) (by kernel_rfl) (fun _ _ _ h => h) (Or.inl ⟨by rfl, by (intro W _; go_simp)⟩) ?_
    simp only [Act.put, List.setIfInBounds_toArray, List.set_cons_succ, List.set_cons_zero]
    refine wpAnyY_takeD (i := 3) 115 (v := .slice (some ⟨gr, 0, none⟩) R R) rfl rfl (by kernel_rfl) (by kernel_rfl) (late_of (by kernel_rfl)) (by kernel_rfl) (by kernel_rfl) (fun _ _ _ h => h) HS.out (Or.inl ⟨by rfl, by (intro W hW; obtain ⟨e0, e1, e2, e3, e4, e5, e6⟩ := hW; go_simp)⟩) ?_
    simp only [Act.put, List.setIfInBounds_toArray, List.set_cons_succ, List.set_cons_zero]
    refine wpAnyY_pure (i := 4) 116 (v := .pointer (some ⟨gb, 1, none⟩)) rfl rfl (by kernel_rfl) (by kernel_rfl) (by kernel_rfl) (fun _ _ _ h => h) (Or.inl ⟨by rfl, by (intro W _; go_simp)⟩) ?_
    simp only [Act.put, List.setIfInBounds_toArray, List.set_cons_succ, List.set_cons_zero]
    refine wpAnyY_takeD (i := 5) 117 (v := .int .i64 x) rfl rfl (by kernel_rfl) (by kernel_rfl) (late_of (by kernel_rfl)) (by kernel_rfl) (by kernel_rfl) (fun _ _ _ h => h) HS.out (Or.inl ⟨by rfl, by (intro W hW; obtain ⟨e0, e1, e2, e3, e4, e5, e6⟩ := hW; go_simp)⟩) ?_
    simp only [Act.put, List.setIfInBounds_toArray, List.set_cons_succ, List.set_cons_zero]
    refine wpAnyY_pure (i := 6) 118 (v := .pointer (some ⟨b, 0, none⟩)) rfl rfl (by kernel_rfl) (by kernel_rfl) (by kernel_rfl) (fun _ _ _ h => h) (Or.inl ⟨by rfl, by (intro W _; go_simp)⟩) ?_
    simp only [Act.put, List.setIfInBounds_toArray, List.set_cons_succ, List.set_cons_zero]
    refine wpAnyY_pure (i := 7) 119 (v := .pointer (some ⟨b, 0, none⟩)) rfl rfl (by kernel_rfl) (by kernel_rfl) (by kernel_rfl) (fun _ _ _ h => h) (Or.inl ⟨by rfl, by (intro W _; go_simp)⟩) ?_
    simp only [Act.put, List.setIfInBounds_toArray, List.set_cons_succ, List.set_cons_zero]
    refine wpAnyY_pure (i := 8) 120 (v := .pointer (some ⟨b, 10, none⟩)) rfl rfl (by kernel_rfl) (by kernel_rfl) (by kernel_rfl) (fun _ _ _ h => h) (Or.inl ⟨by rfl, by (intro W _; go_simp)⟩) ?_
    simp only [Act.put, List.setIfInBounds_toArray, List.set_cons_succ, List.set_cons_zero]
    refine wpAnyY_takeD (i := 9) 121 (v := .slice (some ⟨gr, 0, none⟩) R R) rfl rfl (by kernel_rfl) (by kernel_rfl) (late_of (by kernel_rfl)) (by kernel_rfl) (by kernel_rfl) (fun _ _ _ h => h) HS.out (Or.inl ⟨by rfl, by (intro W hW; obtain ⟨e0, e1, e2, e3, e4, e5, e6⟩ := hW; go_simp)⟩) ?_
    simp only [Act.put, List.setIfInBounds_toArray, List.set_cons_succ, List.set_cons_zero]
    refine wpAnyY_pure (i := 10) 122 (v := .pointer (some ⟨gb, 1, none⟩)) rfl rfl (by kernel_rfl) (by kernel_rfl) (by kernel_rfl) (fun _ _ _ h => h) (Or.inl ⟨by rfl, by (intro W _; go_simp)⟩) ?_
    simp only [Act.put, List.setIfInBounds_toArray, List.set_cons_succ, List.set_cons_zero]
    refine wpAnyY_takeD (i := 11) 123 (v := .int .i64 x) rfl rfl (by kernel_rfl) (by kernel_rfl) (late_of (by kernel_rfl)) (by kernel_rfl) (by kernel_rfl) (fun _ _ _ h => h) HS.out (Or.inl ⟨by rfl, by (intro W hW; obtain ⟨e0, e1, e2, e3, e4, e5, e6⟩ := hW; go_simp)⟩) ?_
    simp only [Act.put, List.setIfInBounds_toArray, List.set_cons_succ, List.set_cons_zero]
    refine wpAnyY_pure (i := 12) 124 (v := .pointer (some ⟨gr, x * 7, none⟩)) rfl rfl (by kernel_rfl) (by kernel_rfl) (by kernel_rfl) (fun _ _ _ h => h) (Or.inl ⟨by rfl, by (intro W _; go_simp)⟩) ?_
    simp only [Act.put, List.setIfInBounds_toArray, List.set_cons_succ, List.set_cons_zero]
    refine wpAnyY_pure (i := 13) 125 (v := .pointer (some ⟨gr, x * 7 + 5, none⟩)) rfl rfl (by kernel_rfl) (by kernel_rfl) (by kernel_rfl) (fun _ _ _ h => h) (Or.inl ⟨by rfl, by (intro W _; go_simp)⟩) ?_
    simp only [Act.put, List.setIfInBounds_toArray, List.set_cons_succ, List.set_cons_zero]
    refine wpAnyY_takeD (i := 14) 126 (v := wv x) rfl rfl (by kernel_rfl) (by kernel_rfl) (late_of (by kernel_rfl)) (by kernel_rfl) (by kernel_rfl) (fun _ _ _ h => h) HS.out (Or.inl ⟨by rfl, by (intro W hW; obtain ⟨e0, e1, e2, e3, e4, e5, e6⟩ := hW; go_simp)⟩) ?_
    simp only [Act.put, List.setIfInBounds_toArray, List.set_cons_succ, List.set_cons_zero]
    refine wpAnyY_takeD (i := 15) 127 (v := .agg #[.int .i64 z, .int .i64 3, .int .i64 0, .int .i64 0]) rfl rfl (by kernel_rfl) (by kernel_rfl) (late_of (by kernel_rfl)) (by kernel_rfl) (by kernel_rfl) (fun _ _ _ h => h) HS.out (Or.inl ⟨by rfl, by (intro W hW; obtain ⟨e0, e1, e2, e3, e4, e5, e6⟩ := hW; go_simp)⟩) ?_
    simp only [Act.put, List.setIfInBounds_toArray, List.set_cons_succ, List.set_cons_zero]
    refine wpAnyY_one (i := 16) rfl (by kernel_rfl) (fun Kc hKc => ?_)
    go_simp
    refine hKc.out _ _ (fun _ h => ⟨cell_al h.1 _, cell_al h.2.1 _, cell_al h.2.2.1 _, cell_al h.2.2.2.1 _, cell_al h.2.2.2.2.1 _, cell_al h.2.2.2.2.2.1 _, cell_al h.2.2.2.2.2.2 _⟩) ?_
    clear hKc Kc
    have HT3 := HT2.out.next (below_new (.cells (qdCells ((z : Int), 3, 0, 0)).toArray 162))
    refine wpAnyY_one (i := 17) rfl (by kernel_rfl) (fun Kc hKc => ?_)
    refine step_append_fresh rfl (.tmp 126) (.tmp 128) 140 rfl w0.heap.size 162 i0 _ 4 32 Tryz.underlying140 HI.out.1 HI.out.2.1 HI.out.2.2.1 HI.out.2.2.2 rfl (by decide) (wv x) _ _ (by simp [Act.eval]) (HT3.dl.rows x hn) ⟨wd.heap.size, 0, none⟩ 1 1 (qdCells ((z : Int), 3, 0, 0)) (by simp [Act.eval]) rfl (cells_new4 wd.drew _ 162) (qd_one _) (by have := HLn.out; unfold maxLen; omega) (by have := HLn.out; omega) HT3.dl.low.size ?_
    intro v wa o1 o2 o3
    obtain ⟨p1, p2, p3, p4⟩ := HT3.keep hn o2
    refine hKc.out _ _ (fun _ h => ⟨p1 _ _ h.1, p2 _ _ h.2.1, p3 _ _ h.2.2.1, p4 _ _ h.2.2.2.1, p4 _ _ h.2.2.2.2.1, p4 _ _ h.2.2.2.2.2.1, p4 _ _ h.2.2.2.2.2.2⟩) ?_
    clear hKc Kc p1 p2 p3 p4
    have HT4 := HT3.append hn ((z : Int), 3, 0, 0) (v := v) (wa := wa) o1 o2 o3
    obtain ⟨HT5, y5, f5⟩ := HT4
    have HT6 : Hid (Dl w0 (wa.setCell ⟨gr, x * 7 + 5, none⟩ v) b c s (setR S x (wayR (S.regs x) ((z : Int), 3, 0, 0))) (upV wv x v) gr gk gw R P ∧ (wa.setCell ⟨gr, x * 7 + 5, none⟩ v).heap[gb]? = some (.cells #[.int .i64 6, .int .i64 x, .int .i64 y, .int .i64 z] 65 (0, 0)) ∧ (wa.setCell ⟨gr, x * 7 + 5, none⟩ v).heap[gb + 1]? = some (.cells #[.bool true, .bool false, .int .i64 xk, .int .i64 xp, .int .i64 xs, .slice ya xl.length yc, .int .i64 xg] 142 (0, 0))) := HT5
    obtain ⟨vo, vc, hv⟩ := owned_shape o1
    subst hv
    clear HT5 HT3 o1 o2 o3 HS HT2
    simp only [Act.put]
    refine wpAnyY_pure (i := 18) 130 (v := .pointer (some ⟨gr, x * 7, none⟩)) rfl rfl (by kernel_rfl) (by kernel_rfl) (by kernel_rfl) (fun _ _ _ h => h) (Or.inl ⟨by rfl, by (intro W _; go_simp)⟩) ?_
    simp only [Act.put]
    refine wpAnyY_pure (i := 19) 131 (v := .pointer (some ⟨gr, x * 7 + 5, none⟩)) rfl rfl (by kernel_rfl) (by kernel_rfl) (by kernel_rfl) (fun _ _ _ h => h) (Or.inl ⟨by rfl, by (intro W _; go_simp)⟩) ?_
    simp only [Act.put]
    refine wpAnyY_one (i := 20) rfl (by kernel_rfl) (fun Kc hKc => ?_)
    go_simp
    refine hKc.out _ _ (fun h => absurd h (by decide)) ?_
    clear hKc Kc
    refine wpAnyY_done (by kernel_rfl) ?_ _
    clear y5 f5 HI
    generalize wa.setCell ⟨gr, x * 7 + 5, none⟩ (.slice vo ((S.regs x).ways.length + 1) vc) = wz at *
    have k10 := HT6.out.1.cell 10 (v := .slice (some ⟨gr, 0, none⟩) R R) rfl
    have b1 := cell_block HT6.out.2.1 1 (.int .i64 x) rfl
    have q1 := HT6.out.1.reg x 1 hn (by omega) rfl
    have rf := HT6.out.1.rfz
    have HU0 := HT6.out.1.putK (i := 1) hn (by omega) (v := .bool false) ⟨(S.regs x).wr, (S.regs x).kind, (S.regs x).plane, (S.regs x).step, true, (S.regs x).ways ++ [((z : Int), 3, 0, 0)], (S.regs x).weight⟩ (by rw [regs_set]; exact seven rfl (by show Value.bool false = .bool ((S.regs x).wr && !true); rw [Bool.not_true, Bool.and_false]) rfl rfl rfl rfl rfl) (by rw [regs_set]; rfl)
    rw [setR_up] at HU0
    have HU1 : Hid (Dl w0 (wz.setCell ⟨gr, x * 7 + 1, none⟩ (.bool false)).drew b c s _ _ gr gk gw R P ∧ (wz.setCell ⟨gr, x * 7 + 1, none⟩ (.bool false)).drew.heap[gb]? = some (.cells #[.int .i64 6, .int .i64 x, .int .i64 y, .int .i64 z] 65 (0, 0)) ∧ (wz.setCell ⟨gr, x * 7 + 1, none⟩ (.bool false)).drew.heap[gb + 1]? = some (.cells #[.bool true, .bool false, .int .i64 xk, .int .i64 xp, .int .i64 xs, .slice ya xl.length yc, .int .i64 xg] 142 (0, 0))) :=
      ⟨HU0.drew, (heap_setOther _ HT6.out.1.regs HT6.out.2.1 (by decide)).trans HT6.out.2.1, (Below.heap_setCell _ _ _ _ (show gb + 1 ≠ gr by omega)).trans HT6.out.2.2⟩
    clear HU0 HT6
    go_wp2_with fail
    go_region
    clear k10 b1 q1 rf
    go_upto_region 23 with (fail)
    generalize (wz.setCell ⟨gr, x * 7 + 1, none⟩ (.bool false)).drew = wy at *
    have k10 := HU1.out.1.cell 10 (v := .slice (some ⟨gr, 0, none⟩) R R) rfl
    have b1 := cell_block HU1.out.2.1 1 (.int .i64 x) rfl
    have b6 := cell_block HU1.out.2.2 6 (.int .i64 xg) rfl
    have q6 : wy.cell? ⟨gr, x * 7 + 6, none⟩ = some (.int .i64 (S.regs x).weight) := HU1.out.1.reg x 6 hn (by omega) (by rw [regs_set]; rfl)
    have HF : Hid (∀ n m, max (S.regs x).weight xg = (S.regs x).weight → ∃ wv', Dl w0 ((wy.drewN n).drewN m) b c s (setR S x (meetB (S.regs x) ⟨xw, xk, xp, xs, true, xl, xg⟩ z)) wv' gr gk gw R P) := fun n m he => by
      rw [HM.out, he]
      exact ⟨_, (HU1.out.1.next (below_drewN (Below.refl _ _) n)).next (below_drewN (Below.refl _ _) m)⟩
    have HG : Hid (∀ W : World, Below wy.heap.size wy W → max (S.regs x).weight xg = xg → W.cell? ⟨b, 10, none⟩ = some (.slice (some ⟨gr, 0, none⟩) R R) ∧ W.cell? ⟨gb, 1, none⟩ = some (.int .i64 x) ∧ W.cell? ⟨gb + 1, 6, none⟩ = some (.int .i64 xg) ∧ W.cell? ⟨gr, x * 7 + 6, none⟩ = some (.int .i64 (S.regs x).weight) ∧ W.frozen? ⟨gr, x * 7 + 6, none⟩ = false ∧ ∃ wv', Dl w0 (W.setCell ⟨gr, x * 7 + 6, none⟩ (.int .i64 xg)).drew b c s (setR S x (meetB (S.regs x) ⟨xw, xk, xp, xs, true, xl, xg⟩ z)) wv' gr gk gw R P) := fun W hW he => by
      have hd := HU1.out.1.next hW
      have h1 := hd.putK (i := 6) hn (by omega) (v := .int .i64 xg) (meetB (S.regs x) ⟨xw, xk, xp, xs, true, xl, xg⟩ z) (by rw [regs_set, HM.out, he]; exact seven rfl rfl rfl rfl rfl rfl rfl) (by rw [regs_set]; rfl)
      rw [setR_up] at h1
      exact ⟨cell_bl hW k10, cell_bl hW b1, cell_bl hW b6, cell_bl hW q6, hd.rfz _, _, h1.drew⟩
    clear HU1
    generalize (S.regs x).weight = gx at *
    by_cases hmx : gx < xg
    · have hmy : decide (gx < xg) = true := by simpa using hmx
      have hmm : max gx xg = xg := by omega
      clear hmx
      go_quiet (fail)
      obtain ⟨k10', b1', b6', q6', f6', wv', hfin⟩ := HG.out (wy.drewN nq) (below_drewN (Below.refl _ _) nq) hmm
      have HFin : Hid (Dl w0 ((wy.drewN nq).setCell ⟨gr, x * 7 + 6, none⟩ (.int .i64 xg)).drew b c s (setR S x (meetB (S.regs x) ⟨xw, xk, xp, xs, true, xl, xg⟩ z)) wv' gr gk gw R P) := hfin
      clear hfin HF HG k10 b1 b6 q6 hmm
      generalize wy.drewN nq = wq at *
      go_wp2_with fail
      go_region
      go_wp2
      go_end0
      exact ⟨rfl, _, by rw [HP.out]; exact HFin.out⟩
    · have hmy : decide (gx < xg) = false := by simpa using hmx
      have hmm : max gx xg = gx := by omega
      clear hmx
      go_quiet (fail)
      obtain ⟨wv', hfin⟩ := HF.out nq 0 hmm
      have HFin : Hid (Dl w0 (wy.drewN nq) b c s (setR S x (meetB (S.regs x) ⟨xw, xk, xp, xs, true, xl, xg⟩ z)) wv' gr gk gw R P) := hfin
      clear hfin HF HG k10 b1 b6 q6 hmm
      generalize wy.drewN nq = wq at *
      go_wp2
      go_end0
      exact ⟨rfl, _, by rw [HP.out]; exact HFin.out⟩
end
end Go.Proofs.YtnkfibahkmmnpaaGreat
