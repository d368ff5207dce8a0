/-
  The walk of the document's does.
-/
import Derived.Test.YtdbfcclmmpcijaaVdG
import Derived.Deep.Cut
namespace Go.Proofs.Ytdbfcclmmpcijaa
open Go.RowKit

section
variable {w0 w : World} {b : Nat} {c : Cd} {s : Ls} {S : St} {wv : Nat → Value} {gr gk gw R P : Nat}
/-- The look's rows, while a register is being written. -/
structure Da (w0 w : World) (b : Nat) (c : Cd) (s : Ls) (S : St) (wv : Nat → Value) (gr gk gw R P k : Nat) (A : Array Value) : Prop where
  box : w.heap[b]? = some (.cells (dlCells c s S.top gr gk gw R P) 60 (0, 0))
  regs : w.heap[gr]? = some (.cells A 80 (0, 0))
  kept : w.heap[gk]? = some (.cells (kpC S P) 4 (0, 0))
  wgt : w.heap[gw]? = some (.cells (wgC S P) 3 (0, 0))
  cd : CdAt w0 c s
  low : Below w0.heap.size w0 w
  le : w0.heap.size ≤ b ∧ w0.heap.size ≤ gr ∧ w0.heap.size ≤ gk ∧ w0.heap.size ≤ gw
  rows : ∀ r, r < R → r ≠ k → w.ownsRow w0.heap.size 90 4 (wv r) (S.regs r).ways.length (qdVals (S.regs r).ways)
theorem Da.set {k : Nat} {A : Array Value} (h : Da w0 w b c s S wv gr gk gw R P k A) (i : Nat) (v : Value) : Da w0 (w.setCell ⟨gr, i, none⟩ v) b c s S wv gr gk gw R P k (A.setIfInBounds i v) :=
  ⟨by rw [heap_setOther _ h.regs h.box (by decide)]; exact h.box, heap_setCell_same _ _ _ _ _ _ h.regs, by rw [heap_setOther _ h.regs h.kept (by decide)]; exact h.kept, by rw [heap_setOther _ h.regs h.wgt (by decide)]; exact h.wgt, h.cd, h.low.setCell (p := ⟨gr, i, none⟩) h.le.2.1 v, h.le, fun r hr hne => owned_setOther (h.rows r hr hne) h.regs (by decide) v⟩
def seven7 (A : Array Value) (k : Nat) (v0 v1 v2 v3 v4 v5 v6 : Value) : Array Value := ((((((A.setIfInBounds (k * 7) v0).setIfInBounds (k * 7 + 1) v1).setIfInBounds (k * 7 + 2) v2).setIfInBounds (k * 7 + 3) v3).setIfInBounds (k * 7 + 4) v4).setIfInBounds (k * 7 + 5) v5).setIfInBounds (k * 7 + 6) v6
theorem seven_is (S : St) (wv : Nat → Value) (R : Nat) {k : Nat} (x : Rg) (u : Value) : seven7 (rgC S wv R) k (rdCell x u 0) (rdCell x u 1) (rdCell x u 2) (rdCell x u 3) (rdCell x u 4) (rdCell x u 5) (rdCell x u 6) = rgC (setR S k x) (upV wv k u) R := by
  unfold seven7
  apply Array.ext_getElem?
  intro j
  have hs : (rgC S wv R).size = R * 7 := by simp [rgC]
  have hs2 : (rgC (setR S k x) (upV wv k u) R).size = R * 7 := by simp [rgC]
  by_cases hj : j < R * 7
  · have e1 : (rgC S wv R)[j]? = some (rdCell (S.regs (j / 7)) (wv (j / 7)) (j % 7)) := by simp [rgC, hj]
    have e2 : (rgC (setR S k x) (upV wv k u) R)[j]? = some (rdCell (updR S.regs k x (j / 7)) (upV wv k u (j / 7)) (j % 7)) := by simp [rgC, hj, setR]
    rw [e2]
    simp only [Array.getElem?_setIfInBounds, Array.size_setIfInBounds, hs, e1]
    by_cases ek : j / 7 = k
    · rw [ek, updR_same, upV_same]
      have : j % 7 = 0 ∨ j % 7 = 1 ∨ j % 7 = 2 ∨ j % 7 = 3 ∨ j % 7 = 4 ∨ j % 7 = 5 ∨ j % 7 = 6 := by omega
      rcases this with e | e | e | e | e | e | e
      · have : j = k * 7 := by omega
        subst this; simp [e, hj]
      · have : j = k * 7 + 1 := by omega
        subst this; simp [e, hj]
      · have : j = k * 7 + 2 := by omega
        subst this; simp [e, hj]
      · have : j = k * 7 + 3 := by omega
        subst this; simp [e, hj]
      · have : j = k * 7 + 4 := by omega
        subst this; simp [e, hj]
      · have : j = k * 7 + 5 := by omega
        subst this; simp [e, hj]
      · have : j = k * 7 + 6 := by omega
        subst this; simp [e, hj]
    · rw [updR_ne _ _ ek, upV_ne _ _ ek, if_neg (by omega), if_neg (by omega), if_neg (by omega), if_neg (by omega), if_neg (by omega), if_neg (by omega), if_neg (by omega)]
  · rw [Array.getElem?_eq_none (by simp [hs]; omega), Array.getElem?_eq_none (by omega)]
/-- A whole register is laid anew. -/
theorem Dl.write (h : Dl w0 w b c s S wv gr gk gw R P) (k : Nat) (d p t : Int) (g : Int) :
    Dl w0 (((((((w.setCell ⟨gr, k * 7, none⟩ (.bool true)).setCell ⟨gr, k * 7 + 1, none⟩ (.bool true)).setCell ⟨gr, k * 7 + 2, none⟩ (.int .i64 d)).setCell ⟨gr, k * 7 + 3, none⟩ (.int .i64 p)).setCell ⟨gr, k * 7 + 4, none⟩ (.int .i64 t)).setCell ⟨gr, k * 7 + 5, none⟩ (.slice none 0 0)).setCell ⟨gr, k * 7 + 6, none⟩ (.int .i64 g)) b c s (setR S k ⟨true, d, p, t, false, [], g⟩) (upV wv k (.slice none 0 0)) gr gk gw R P := by
  have h0 : Da w0 w b c s S wv gr gk gw R P k (rgC S wv R) := ⟨h.box, h.regs, h.kept, h.wgt, h.cd, h.low, h.le, fun r hr _ => h.rows r hr⟩
  have h7 := ((((((h0.set (k * 7) (.bool true)).set (k * 7 + 1) (.bool true)).set (k * 7 + 2) (.int .i64 d)).set (k * 7 + 3) (.int .i64 p)).set (k * 7 + 4) (.int .i64 t)).set (k * 7 + 5) (.slice none 0 0)).set (k * 7 + 6) (.int .i64 g)
  refine ⟨h7.box, ?_, h7.kept, h7.wgt, h7.cd, h7.low, h7.le, fun r hr => ?_, fun r r' hr hr' hne => ?_⟩
  · rw [h7.regs]
    have := seven_is S wv R (k := k) ⟨true, d, p, t, false, [], g⟩ (.slice none 0 0)
    rw [← this]; rfl
  · show World.ownsRow _ _ _ _ (upV wv k (.slice none 0 0) r) (updR S.regs k ⟨true, d, p, t, false, [], g⟩ r).ways.length (qdVals (updR S.regs k ⟨true, d, p, t, false, [], g⟩ r).ways)
    by_cases e : r = k
    · subst e; rw [updR_same, upV_same]; exact own_nil _ _ _
    · rw [updR_ne _ _ e, upV_ne _ _ e]; exact h7.rows r hr e
  · by_cases e : r = k
    · subst e; rw [upV_same]; exact .inl rfl
    · rw [upV_ne _ _ e]
      by_cases e2 : r' = k
      · subst e2; rw [upV_same]
        by_cases h1 : (wv r).ownBlock = none
        · exact .inl h1
        · exact .inr h1
      · rw [upV_ne _ _ e2]; exact h.apart r r' hr hr' hne
/-- No weight is greater than the greatest. -/
structure Wt (S : St) : Prop where
  reg : ∀ r, (S.regs r).weight ≤ max S.top 1
  pl : ∀ p, (S.pl p).2 ≤ max S.top 1
  reg0 : ∀ r, 0 ≤ (S.regs r).weight
  pl0 : ∀ p, 0 ≤ (S.pl p).2

theorem Dl.drew (h : Dl w0 w b c s S wv gr gk gw R P) : Dl w0 w.drew b c s S wv gr gk gw R P := h.next (below_drewN (Below.refl _ _) 1)
theorem Dl.alloc (h : Dl w0 w b c s S wv gr gk gw R P) (o : Obj) : Dl w0 (w.alloc o) b c s S wv gr gk gw R P := h.next (below_new o)
theorem past1 (S : St) (x y z : Nat) : pastP S (1, x, y, z) = weighP (setR S x ⟨true, 0, 0, 0, false, [], 0⟩) 0 := by simp [pastP, writeP, rg0]
theorem past2 (S : St) (x y z : Nat) : pastP S (2, x, y, z) = weighP (setR S x ⟨true, 1, 0, 0, false, [], 1⟩) 1 := by simp [pastP, writeP]
theorem past3 (S : St) (x y z : Nat) (hz : z ≠ 0) : pastP S (3, x, y, z) = weighP (setR S x ⟨true, 2, y, z, false, [], 0⟩) 0 := by simp [pastP, writeP, loadB, hz]
theorem past3z (S : St) (x y : Nat) : pastP S (3, x, y, (0 : Nat)) = weighP (setR S x ⟨true, 3, 0, 0, false, [], (S.pl y).2⟩) (S.pl y).2 := by simp [pastP, writeP, loadB]
theorem past7 (S : St) (x y z : Nat) : pastP S (7, x, y, z) = setP S x (true, (S.regs y).weight) := by simp [pastP]

set_option maxRecDepth 10000 in
set_option maxHeartbeats 1000000 in
theorem ddoes1 (x y z : Nat) (h : Dl w0 w b c s S wv gr gk gw R P) (hn : x < R) :
    Calls Try.prog 44 #[.pointer (some ⟨b, 0, none⟩), .agg #[.int .i64 1, .int .i64 x, .int .i64 y, .int .i64 z]] w fun e w' => e = .returned (.tuple #[]) ∧ ∃ wv', Dl w0 w' b c s (pastP S (1, x, y, z)) wv' gr gk gw R P := by
  have hlb := lt_block h.box
  have hlr := lt_block h.regs
  have k10 := h.cell 10 (v := .slice (some ⟨gr, 0, none⟩) R R) rfl
  have r0 := h.reg x 0 hn (by omega) rfl
  have r1 := h.reg x 1 hn (by omega) rfl
  have r2 := h.reg x 2 hn (by omega) rfl
  have r3 := h.reg x 3 hn (by omega) rfl
  have r4 := h.reg x 4 hn (by omega) rfl
  have r5 := h.reg x 5 hn (by omega) rfl
  have r6 := h.reg x 6 hn (by omega) rfl
  rw [Nat.add_zero] at r0
  have rf := h.rfz
  have HP : Hid (pastP S (1, x, y, z) = _) := past1 S x y z
  have HD : Hid (∀ o, Dl w0 ((((((((w.setCell ⟨gr, x * 7, none⟩ (.bool true)).setCell ⟨gr, x * 7 + 1, none⟩ (.bool true)).setCell ⟨gr, x * 7 + 2, none⟩ (.int .i64 0)).setCell ⟨gr, x * 7 + 3, none⟩ (.int .i64 0)).setCell ⟨gr, x * 7 + 4, none⟩ (.int .i64 0)).setCell ⟨gr, x * 7 + 5, none⟩ (.slice none 0 0)).setCell ⟨gr, x * 7 + 6, none⟩ (.int .i64 0)).alloc o).drew b c s _ _ gr gk gw R P) := fun o => (((h.write x 0 0 0 0).light 0 (by omega)).alloc o).drew
  clear h
  go_enter Try.func44, Try.ntmps44
  go_wp2_with fail
  go_region
  go_wp2
  go_end0
  exact ⟨rfl, _, by rw [HP.out]; exact HD.out _⟩
set_option maxRecDepth 10000 in
set_option maxHeartbeats 1000000 in
theorem ddoes2 (x y z : Nat) (h : Dl w0 w b c s S wv gr gk gw R P) (hn : x < R) :
    Calls Try.prog 44 #[.pointer (some ⟨b, 0, none⟩), .agg #[.int .i64 2, .int .i64 x, .int .i64 y, .int .i64 z]] w fun e w' => e = .returned (.tuple #[]) ∧ ∃ wv', Dl w0 w' b c s (pastP S (2, x, y, z)) wv' gr gk gw R P := by
  have hlb := lt_block h.box
  have hlr := lt_block h.regs
  have k10 := h.cell 10 (v := .slice (some ⟨gr, 0, none⟩) R R) rfl
  have r0 := h.reg x 0 hn (by omega) rfl
  have r1 := h.reg x 1 hn (by omega) rfl
  have r2 := h.reg x 2 hn (by omega) rfl
  have r3 := h.reg x 3 hn (by omega) rfl
  have r4 := h.reg x 4 hn (by omega) rfl
  have r5 := h.reg x 5 hn (by omega) rfl
  have r6 := h.reg x 6 hn (by omega) rfl
  rw [Nat.add_zero] at r0
  have rf := h.rfz
  have HP : Hid (pastP S (2, x, y, z) = _) := past2 S x y z
  have HD : Hid (∀ o, Dl w0 ((((((((w.setCell ⟨gr, x * 7, none⟩ (.bool true)).setCell ⟨gr, x * 7 + 1, none⟩ (.bool true)).setCell ⟨gr, x * 7 + 2, none⟩ (.int .i64 1)).setCell ⟨gr, x * 7 + 3, none⟩ (.int .i64 0)).setCell ⟨gr, x * 7 + 4, none⟩ (.int .i64 0)).setCell ⟨gr, x * 7 + 5, none⟩ (.slice none 0 0)).setCell ⟨gr, x * 7 + 6, none⟩ (.int .i64 1)).alloc o).drew b c s _ _ gr gk gw R P) := fun o => (((h.write x 1 0 0 1).light 1 (by omega)).alloc o).drew
  clear h
  go_enter Try.func44, Try.ntmps44
  go_wp2_with fail
  go_region
  go_wp2
  go_end0
  exact ⟨rfl, _, by rw [HP.out]; exact HD.out _⟩
set_option maxRecDepth 10000 in
set_option maxHeartbeats 1000000 in
theorem ddoes3n (x y z : Nat) (h : Dl w0 w b c s S wv gr gk gw R P) (hn : x < R) (hz : z ≠ 0) :
    Calls Try.prog 44 #[.pointer (some ⟨b, 0, none⟩), .agg #[.int .i64 3, .int .i64 x, .int .i64 y, .int .i64 z]] w fun e w' => e = .returned (.tuple #[]) ∧ ∃ wv', Dl w0 w' b c s (pastP S (3, x, y, z)) wv' gr gk gw R P := by
  have hlb := lt_block h.box
  have hlr := lt_block h.regs
  have k10 := h.cell 10 (v := .slice (some ⟨gr, 0, none⟩) R R) rfl
  have r0 := h.reg x 0 hn (by omega) rfl
  have r1 := h.reg x 1 hn (by omega) rfl
  have r2 := h.reg x 2 hn (by omega) rfl
  have r3 := h.reg x 3 hn (by omega) rfl
  have r4 := h.reg x 4 hn (by omega) rfl
  have r5 := h.reg x 5 hn (by omega) rfl
  have r6 := h.reg x 6 hn (by omega) rfl
  rw [Nat.add_zero] at r0
  have rf := h.rfz
  have hz0 : ((z : Int) == 0) = false := by simp [hz]
  have HP : Hid (pastP S (3, x, y, z) = _) := past3 S x y z hz
  have HD : Hid (∀ o o2, Dl w0 (((((((((w.setCell ⟨gr, x * 7, none⟩ (.bool true)).setCell ⟨gr, x * 7 + 1, none⟩ (.bool true)).setCell ⟨gr, x * 7 + 2, none⟩ (.int .i64 2)).setCell ⟨gr, x * 7 + 3, none⟩ (.int .i64 y)).setCell ⟨gr, x * 7 + 4, none⟩ (.int .i64 z)).setCell ⟨gr, x * 7 + 5, none⟩ (.slice none 0 0)).setCell ⟨gr, x * 7 + 6, none⟩ (.int .i64 0)).alloc o).alloc o2).drew b c s _ _ gr gk gw R P) := fun o o2 => ((((h.write x 2 y z 0).light 0 (by omega)).alloc o).alloc o2).drew
  clear h hz
  go_enter Try.func44, Try.ntmps44
  go_wp2_with fail
  go_region
  go_wp2
  go_end0
  exact ⟨rfl, _, by rw [HP.out]; exact HD.out _ _⟩
set_option maxRecDepth 10000 in
set_option maxHeartbeats 1000000 in
theorem ddoes3z (x y : Nat) (h : Dl w0 w b c s S wv gr gk gw R P) (hn : x < R) (hy : y < P) (hw : (S.pl y).2 ≤ max S.top 1) :
    Calls Try.prog 44 #[.pointer (some ⟨b, 0, none⟩), .agg #[.int .i64 3, .int .i64 x, .int .i64 y, .int .i64 0]] w fun e w' => e = .returned (.tuple #[]) ∧ ∃ wv', Dl w0 w' b c s (pastP S (3, x, y, (0 : Nat))) wv' gr gk gw R P := by
  have hlb := lt_block h.box
  have hlr := lt_block h.regs
  have k10 := h.cell 10 (v := .slice (some ⟨gr, 0, none⟩) R R) rfl
  have r0 := h.reg x 0 hn (by omega) rfl
  have r1 := h.reg x 1 hn (by omega) rfl
  have r2 := h.reg x 2 hn (by omega) rfl
  have r3 := h.reg x 3 hn (by omega) rfl
  have r4 := h.reg x 4 hn (by omega) rfl
  have r5 := h.reg x 5 hn (by omega) rfl
  have r6 := h.reg x 6 hn (by omega) rfl
  rw [Nat.add_zero] at r0
  have rf := h.rfz
  have k12 := h.cell 12 (v := .slice (some ⟨gw, 0, none⟩) P P) rfl
  have hlw := lt_block h.wgt
  have p2 := h.wg y hy
  have HP : Hid (pastP S (3, x, y, (0 : Nat)) = _) := past3z S x y
  have HD : Hid (∀ o o2, Dl w0 (((((((((w.setCell ⟨gr, x * 7, none⟩ (.bool true)).setCell ⟨gr, x * 7 + 1, none⟩ (.bool true)).setCell ⟨gr, x * 7 + 2, none⟩ (.int .i64 3)).setCell ⟨gr, x * 7 + 3, none⟩ (.int .i64 0)).setCell ⟨gr, x * 7 + 4, none⟩ (.int .i64 0)).setCell ⟨gr, x * 7 + 5, none⟩ (.slice none 0 0)).setCell ⟨gr, x * 7 + 6, none⟩ (.int .i64 (S.pl y).2)).alloc o).alloc o2).drew.drew b c s _ _ gr gk gw R P) := fun o o2 => (((((h.write x 3 0 0 (S.pl y).2).light (S.pl y).2 hw).alloc o).alloc o2).drew).drew
  generalize hpl : (S.pl y).2 = pw at *
  clear h hw hpl
  go_enter Try.func44, Try.ntmps44
  go_wp2_with fail
  go_region
  go_wp2_with fail
  go_region
  go_wp2
  go_end0
  exact ⟨rfl, _, by rw [HP.out]; exact HD.out _ _⟩
set_option maxRecDepth 10000 in
set_option maxHeartbeats 1000000 in
theorem ddoes7 (x y z : Nat) (h : Dl w0 w b c s S wv gr gk gw R P) (hn : x < P) (hy : y < R) :
    Calls Try.prog 44 #[.pointer (some ⟨b, 0, none⟩), .agg #[.int .i64 7, .int .i64 x, .int .i64 y, .int .i64 z]] w fun e w' => e = .returned (.tuple #[]) ∧ ∃ wv', Dl w0 w' b c s (pastP S (7, x, y, z)) wv' gr gk gw R P := by
  have hlb := lt_block h.box
  have hlr := lt_block h.regs
  have k10 := h.cell 10 (v := .slice (some ⟨gr, 0, none⟩) R R) rfl
  have hlk := lt_block h.kept
  have hlw := lt_block h.wgt
  have k11 := h.cell 11 (v := .slice (some ⟨gk, 0, none⟩) P P) rfl
  have k12 := h.cell 12 (v := .slice (some ⟨gw, 0, none⟩) P P) rfl
  have p1 := h.kp x hn
  have f1 := frozen_of_row w gk x _ _ h.kept
  have HP : Hid (pastP S (7, x, y, z) = _) := past7 S x y z
  have HD : Hid (∀ o, Dl w0 ((w.setCell ⟨gk, x, none⟩ (.bool true)).alloc o).drew b c s (setP S x (true, (S.pl x).2)) wv gr gk gw R P) := fun o => ((h.keep1 x true).alloc o).drew
  clear h
  go_enter Try.func44, Try.ntmps44
  go_wp2_with fail
  go_region
  clear p1 f1 k10 k11 k12 hlb hlr hlk hlw
  go_upto_region 27 with (fail)
  have HW := HD.out (.cells #[.int .i64 7, .int .i64 x, .int .i64 y, .int .i64 z] 35)
  have HB : Hid (((w.setCell ⟨gk, x, none⟩ (.bool true)).alloc (.cells #[.int .i64 7, .int .i64 x, .int .i64 y, .int .i64 z] 35)).drew.heap[w.heap.size]? = some (.cells #[.int .i64 7, .int .i64 x, .int .i64 y, .int .i64 z] 35 (0, 0))) := by
    have := heap_alloc_new (w.setCell ⟨gk, x, none⟩ (.bool true)) (.cells #[.int .i64 7, .int .i64 x, .int .i64 y, .int .i64 z] 35)
    rw [show (w.setCell ⟨gk, x, none⟩ (.bool true)).heap.size = w.heap.size by simp] at this
    exact this
  have HW2 : Hid _ := HW
  clear HD HW
  generalize ((w.setCell ⟨gk, x, none⟩ (.bool true)).alloc (.cells #[.int .i64 7, .int .i64 x, .int .i64 y, .int .i64 z] 35)).drew = wd at *
  generalize w.heap.size = gb at *
  have k10 := HW2.out.cell 10 (v := .slice (some ⟨gr, 0, none⟩) R R) rfl
  have k12 := HW2.out.cell 12 (v := .slice (some ⟨gw, 0, none⟩) P P) rfl
  have p2 := HW2.out.wg x hn
  have f2 := frozen_of_row wd gw x _ _ HW2.out.wgt
  have r6 := HW2.out.reg y 6 hy (by omega) (v := .int .i64 (S.regs y).weight) rfl
  have b0 := cell_block HB.out 0 (.int .i64 7) rfl
  have b1 := cell_block HB.out 1 (.int .i64 x) rfl
  have b2 := cell_block HB.out 2 (.int .i64 y) rfl
  have HF : Hid (Dl w0 (wd.setCell ⟨gw, x, none⟩ (.int .i64 (S.regs y).weight)).drew b c s (setP S x (true, (S.regs y).weight)) wv gr gk gw R P) := by
    have := (HW2.out.keep2 x (S.regs y).weight).drew
    rwa [show setP (setP S x (true, (S.pl x).2)) x (((setP S x (true, (S.pl x).2)).pl x).1, (S.regs y).weight) = setP S x (true, (S.regs y).weight) by
      show setP (setP S x (true, (S.pl x).2)) x ((updP S.pl x (true, (S.pl x).2) x).1, (S.regs y).weight) = _
      rw [updP_same]
      unfold setP updP; congr 1; funext i; simp only; split <;> rfl] at this
  generalize (S.regs y).weight = g at *
  clear HW2 HB
  go_region
  go_wp2
  go_end0
  exact ⟨rfl, _, by rw [HP.out]; exact HF.out⟩
end
end Go.Proofs.Ytdbfcclmmpcijaa
