/-
  The walks of the acts: none, start. And what follows.
-/
import Derived.Test.YtnkfibahkmmnpaaGreatKj
namespace Go.Proofs.YtnkfibahkmmnpaaGreat
open Go.RowKit

def qdAgg (o p q r : Int) : Value := .agg #[.int .i64 o, .int .i64 p, .int .i64 q, .int .i64 r]
section
variable {dq : Nat → Option (Array Value × Nat)} {w0 w : World} {b g gs : Nat} {c : Cd} {s : Ls} {sx sy sa : Sl} {x y : List Int} {i j : Nat} {M : Ms}
theorem below_rgW {B : Nat} {a d : World} (h : Below B a d) (b k : Nat) (v : Ct) : Below B (rgW a b k v) (rgW d b k v) := below_setBoth (below_setBoth (below_setBoth h _ _) _ _) _ _
theorem size_rgW (w : World) (b k : Nat) (v : Ct) : (rgW w b k v).heap.size = w.heap.size := by simp [rgW, World.setCell]
theorem Rn.rgNext {w2 : World} {v : Ct} {k : Nat} (h : Rn dq w0 w b g gs c s sx sy sa x y i j M) (hb : Below w.heap.size w w2) : Rn dq w0 (rgW w2 b k v) b g gs c s sx sy sa x y i j { M with regs := updC M.regs k v } := (h.next hb).putR k v
set_option maxRecDepth 10000 in
set_option maxHeartbeats 1000000 in
theorem none_calls (h : Rn dq w0 w b g gs c s sx sy sa x y i j M) (o : Int) (p : Nat) (q r : Int) (hp : p < 16) :
    Calls Tryz.prog 54 #[.pointer (some ⟨b, 0, none⟩), .agg #[.int .i64 o, .int .i64 p, .int .i64 q, .int .i64 r]] w fun e w' => e = .returned (.tuple #[]) ∧ Rn dq w0 w' b g gs c s sx sy sa x y i j { M with regs := updC M.regs p ct0 } := by
  have hlb := h.lt.1
  have r0 : w.cell? ⟨b, 15 + p * 3, none⟩ = some (.bool (M.regs p).has) := h.reg (m := 0) hp (by omega)
  have r1 : w.cell? ⟨b, 15 + p * 3 + 1, none⟩ = some (.int .u16 (M.regs p).mask) := h.reg (m := 1) hp (by omega)
  have r2 : w.cell? ⟨b, 15 + p * 3 + 2, none⟩ = some (.int .i64 (M.regs p).num) := h.reg (m := 2) hp (by omega)
  have f0 := h.fz (15 + p * 3)
  have f1 := h.fz (15 + p * 3 + 1)
  have f2 := h.fz (15 + p * 3 + 2)
  have HR : Hid (∀ o, Rn dq w0 ((rgW w b p ct0).alloc o).drew b g gs c s sx sy sa x y i j { M with regs := updC M.regs p ct0 }) := fun o => ((h.putR p ct0).next (below_new o)).drew
  clear h
  go_enter Tryz.func54, Tryz.ntmps54
  go_wp2_with fail
  go_region
  go_wp2
  go_end0
  exact ⟨rfl, HR.out _⟩
theorem updC_twice (f : Nat → Ct) (k : Nat) (u v : Ct) : updC (updC f k u) k v = updC f k v := by
  funext t
  unfold updC
  by_cases e : t = k
  · rw [if_pos e, if_pos e]
  · rw [if_neg e, if_neg e, if_neg e]
set_option maxRecDepth 10000 in
set_option maxHeartbeats 1000000 in
theorem start_calls (h : Rn dq w0 w b g gs c s sx sy sa x y i j M) (o : Int) (p q : Nat) (r : Int) (hp : p < 16) (hq : q < s.k.n) :
    Calls Tryz.prog 55 #[.pointer (some ⟨b, 0, none⟩), .agg #[.int .i64 o, .int .i64 p, .int .i64 q, .int .i64 r]] w fun e w' => e = .returned (.tuple #[]) ∧ Rn dq w0 w' b g gs c s sx sy sa x y i j { M with regs := updC M.regs p (if metB r (decide (i = 0)) (decide (j = 0)) then ⟨true, 0, c.consts.getD q 0⟩ else ct0) } := by
  have hlb := h.lt.1
  have r0 : w.cell? ⟨b, 15 + p * 3, none⟩ = some (.bool (M.regs p).has) := h.reg (m := 0) hp (by omega)
  have r1 : w.cell? ⟨b, 15 + p * 3 + 1, none⟩ = some (.int .u16 (M.regs p).mask) := h.reg (m := 1) hp (by omega)
  have r2 : w.cell? ⟨b, 15 + p * 3 + 2, none⟩ = some (.int .i64 (M.regs p).num) := h.reg (m := 2) hp (by omega)
  have f0 := h.fz (15 + p * 3)
  have f1 := h.fz (15 + p * 3 + 1)
  have f2 := h.fz (15 + p * 3 + 2)
  have HR : Hid (∀ o, Rn dq w0 ((rgW w b p ct0).alloc o).drew b g gs c s sx sy sa x y i j { M with regs := updC M.regs p ct0 }) := fun o => ((h.putR p ct0).next (below_new o)).drew
  clear h
  have HI : Hid (((i : Int) == 0) = decide (i = 0)) := by show _ = _; rw [Bool.eq_iff_iff]; simp
  have HJ : Hid (((j : Int) == 0) = decide (j = 0)) := by show _ = _; rw [Bool.eq_iff_iff]; simp
  obtain ⟨bi, hbi⟩ : ∃ t, ((i : Int) == 0) = t := ⟨_, rfl⟩
  obtain ⟨bj, hbj⟩ : ∃ t, ((j : Int) == 0) = t := ⟨_, rfl⟩
  rw [← HI.out, ← HJ.out, hbi, hbj]
  clear HI HJ
  obtain ⟨mm, hmm⟩ : ∃ t, metB r bi bj = t := ⟨_, rfl⟩
  rw [hmm]
  have HM : Hid (metB r bi bj = mm) := hmm
  clear hmm
  have HC : Hid (∀ W, Calls Tryz.prog 83 #[.int .i64 r, .bool bi, .bool bj] W fun e w' => e = .returned (.bool mm) ∧ w' = W) := fun W => by rw [← HM.out]; exact (meets_calls r bi bj W).mono fun _ _ t => ⟨t.1, t.2.symm⟩
  go_enter Tryz.func55, Tryz.ntmps55
  go_wp2_with fail
  go_region
  clear r0 r1 r2 f0 f1 f2
  go_upto_region 2 with (fail)
  have HW : Hid _ := HR.out (.cells #[.int .i64 o, .int .i64 p, .int .i64 q, .int .i64 r] 65)
  have HB : Hid (((((w.setCell ⟨b, 15 + p * 3, none⟩ (.bool false)).setCell ⟨b, 15 + p * 3 + 1, none⟩ (.int .u16 0)).setCell ⟨b, 15 + p * 3 + 2, none⟩ (.int .i64 0)).alloc (.cells #[.int .i64 o, .int .i64 p, .int .i64 q, .int .i64 r] 65)).drew.heap[w.heap.size]? = some (.cells #[.int .i64 o, .int .i64 p, .int .i64 q, .int .i64 r] 65 (0, 0))) := by
    have := heap_alloc_new (((w.setCell ⟨b, 15 + p * 3, none⟩ (.bool false)).setCell ⟨b, 15 + p * 3 + 1, none⟩ (.int .u16 0)).setCell ⟨b, 15 + p * 3 + 2, none⟩ (.int .i64 0)) (.cells #[.int .i64 o, .int .i64 p, .int .i64 q, .int .i64 r] 65)
    rw [show (((w.setCell ⟨b, 15 + p * 3, none⟩ (.bool false)).setCell ⟨b, 15 + p * 3 + 1, none⟩ (.int .u16 0)).setCell ⟨b, 15 + p * 3 + 2, none⟩ (.int .i64 0)).heap.size = w.heap.size by simp] at this
    exact this
  unfold rgW at HW
  clear HR
  have HW2 : Hid (Rn dq w0 ((((w.setCell ⟨b, 15 + p * 3, none⟩ (.bool false)).setCell ⟨b, 15 + p * 3 + 1, none⟩ (.int .u16 0)).setCell ⟨b, 15 + p * 3 + 2, none⟩ (.int .i64 0)).alloc (.cells #[.int .i64 o, .int .i64 p, .int .i64 q, .int .i64 r] 65)).drew b g gs c s sx sy sa x y i j { M with regs := updC M.regs p ct0 }) := HW
  clear HW
  generalize ((((w.setCell ⟨b, 15 + p * 3, none⟩ (.bool false)).setCell ⟨b, 15 + p * 3 + 1, none⟩ (.int .u16 0)).setCell ⟨b, 15 + p * 3 + 2, none⟩ (.int .i64 0)).alloc (.cells #[.int .i64 o, .int .i64 p, .int .i64 q, .int .i64 r] 65)).drew = wd at *
  have hne : b ≠ w.heap.size := by omega
  generalize w.heap.size = gb at *
  have hlb2 := HW2.out.lt.1
  have c13 := HW2.out.cell 13 (by omega) (v := .int .i64 i) rfl
  have c14 := HW2.out.cell 14 (by omega) (v := .int .i64 j) rfl
  have q3 := cell_block HB.out 3 _ rfl
  have q2 := cell_block HB.out 2 _ rfl
  have q1 := cell_block HB.out 1 _ rfl
  go_quiet ((go_at_call 83; refine Calls.quiet_of_same (HC.out _)))
  cases mm
  · go_wp2
    go_end0
    exact ⟨rfl, HW2.out.next (below_drewN (Below.refl _ _) _)⟩
  · have HK : Hid (IntsAt wd s.k.a s.k.n c.consts) := HW2.out.cd.consts.below HW2.out.low
    obtain ⟨kb, ko, hka, hkc⟩ := HK.out.cells (by omega)
    have k1 := hkc q hq
    have c8 := HW2.out.cell 8 (by omega) (v := .slice (some ⟨kb, ko, none⟩) s.k.n s.k.c) (by rw [← hka]; rfl)
    have hks := HK.out.short
    unfold maxLen at hks
    have r0 : wd.cell? ⟨b, 15 + p * 3, none⟩ = some _ := HW2.out.reg (m := 0) hp (by omega)
    have r1 : wd.cell? ⟨b, 15 + p * 3 + 1, none⟩ = some _ := HW2.out.reg (m := 1) hp (by omega)
    have r2 : wd.cell? ⟨b, 15 + p * 3 + 2, none⟩ = some _ := HW2.out.reg (m := 2) hp (by omega)
    have f0 := HW2.out.fz (15 + p * 3)
    have f1 := HW2.out.fz (15 + p * 3 + 1)
    have f2 := HW2.out.fz (15 + p * 3 + 2)
    clear hkc hka
    go_wp2_with fail
    go_region
    go_wp2
    go_end0
    refine ⟨rfl, ?_⟩
    have HX := (HW2.out.next (below_drewN (Below.refl _ _) (nq + 1))).putR p ⟨true, 0, c.consts.getD q 0⟩
    rw [updC_twice] at HX
    exact HX
end
end Go.Proofs.YtnkfibahkmmnpaaGreat
namespace Go.Proofs.YtnkfibahkmmnpaaGreat
open Go.RowKit

/-- One cell of a register is written. -/
theorem rn_one {g : Nat} {c : Cd} {s : Ls} {sx sy : Sl} {i j : Nat} {R : Nat → Ct} (k m : Nat) (hm : m < 3) (v : Value) (x : Ct) (hx : ∀ t, t < 3 → (if t = m then v else ctCell (R k) t) = ctCell x t) :
    (rnCells g c s sx sy i j R).setIfInBounds (15 + k * 3 + m) v = rnCells g c s sx sy i j (updC R k x) := by
  apply Array.ext_getElem?
  intro q
  by_cases hq : q < 63
  · rw [rn_get hq]
    simp only [Array.getElem?_setIfInBounds, rn_size, rn_get hq]
    by_cases h15 : q < 15
    · rw [if_neg (by omega), rn_low h15]
    · obtain ⟨k', t, ht, rfl⟩ : ∃ k' t, t < 3 ∧ q = 15 + k' * 3 + t := ⟨(q - 15) / 3, (q - 15) % 3, by omega, by omega⟩
      rw [rn_reg k' t ht, rn_reg k' t ht]
      by_cases ek : k' = k
      · subst ek
        rw [updC_same, ← hx t ht]
        by_cases et : t = m
        · subst et; rw [if_pos rfl, if_pos (by omega), if_pos rfl]
        · rw [if_neg (by omega), if_neg et]
      · rw [updC_ne _ _ ek, if_neg (by omega)]
  · rw [Array.getElem?_eq_none (by simp [rn_size]; omega), Array.getElem?_eq_none (by rw [rn_size]; omega)]
section
variable {dq : Nat → Option (Array Value × Nat)} {w0 w : World} {b g gs : Nat} {c : Cd} {s : Ls} {sx sy sa : Sl} {x y : List Int} {i j : Nat} {M : Ms}
theorem Rn.putC (h : Rn dq w0 w b g gs c s sx sy sa x y i j M) (k m : Nat) (hm : m < 3) (v : Value) (u : Ct) (hx : ∀ t, t < 3 → (if t = m then v else ctCell (M.regs k) t) = ctCell u t) :
    Rn dq w0 (w.setCell ⟨b, 15 + k * 3 + m, none⟩ v) b g gs c s sx sy sa x y i j { M with regs := updC M.regs k u } := by
  refine ⟨?_, ⟨?_, ?_, h.tb.few⟩, h.cd, h.hx, h.hy, h.low.setCell (p := ⟨b, _, none⟩) h.le.1 _, h.le, fun t cs ty ht => by rw [Below.heap_setCell _ _ _ _ (h.db ht).1]; exact h.ds t cs ty ht⟩
  · rw [heap_setCell_same w b (15 + k * 3 + m) _ 53 v h.box, rn_one k m hm v u hx]
  · rw [Below.heap_setCell _ _ _ _ h.bg.symm]; exact h.tb.box
  · rw [Below.heap_setCell _ _ _ _ h.bs.symm]; exact h.tb.row
theorem Rn.putN (h : Rn dq w0 w b g gs c s sx sy sa x y i j M) (k : Nat) (n : Int) : Rn dq w0 (w.setCell ⟨b, 15 + k * 3 + 2, none⟩ (.int .i64 n)) b g gs c s sx sy sa x y i j { M with regs := updC M.regs k ⟨(M.regs k).has, (M.regs k).mask, n⟩ } :=
  h.putC k 2 (by omega) _ _ (fun t ht => by
    have : t = 0 ∨ t = 1 ∨ t = 2 := by omega
    rcases this with rfl | rfl | rfl <;> rfl)
set_option maxRecDepth 10000 in
set_option maxHeartbeats 1000000 in
theorem add_calls (h : Rn dq w0 w b g gs c s sx sy sa x y i j M) (o : Int) (p q : Nat) (r : Int) (hp : p < 16) (hq : q < s.k.n) :
    Calls Tryz.prog 57 #[.pointer (some ⟨b, 0, none⟩), .agg #[.int .i64 o, .int .i64 p, .int .i64 q, .int .i64 r]] w fun e w' => e = .returned (.tuple #[]) ∧ Rn dq w0 w' b g gs c s sx sy sa x y i j { M with regs := if (M.regs p).has then updC M.regs p ⟨(M.regs p).has, (M.regs p).mask, wrap64 ((M.regs p).num + c.consts.getD q 0)⟩ else M.regs } := by
  have hlb := h.lt.1
  have HR : Hid (∀ o, Rn dq w0 (w.alloc o) b g gs c s sx sy sa x y i j M) := fun o => h.next (below_new o)
  clear h
  go_enter Tryz.func57, Tryz.ntmps57
  go_upto_region 1 with (fail)
  have HW := HR.out (.cells #[.int .i64 o, .int .i64 p, .int .i64 q, .int .i64 r] 65)
  have HB : Hid ((w.alloc (.cells #[.int .i64 o, .int .i64 p, .int .i64 q, .int .i64 r] 65)).heap[w.heap.size]? = some (.cells #[.int .i64 o, .int .i64 p, .int .i64 q, .int .i64 r] 65 (0, 0))) := heap_alloc_new _ _
  clear HR
  have HW2 : Hid (Rn dq w0 (w.alloc (.cells #[.int .i64 o, .int .i64 p, .int .i64 q, .int .i64 r] 65)) b g gs c s sx sy sa x y i j M) := HW
  clear HW
  generalize w.alloc (.cells #[.int .i64 o, .int .i64 p, .int .i64 q, .int .i64 r] 65) = wd at *
  have hne : b ≠ w.heap.size := by omega
  generalize w.heap.size = gb at *
  have hlb2 := HW2.out.lt.1
  have q2 := cell_block HB.out 2 _ rfl
  have q1 := cell_block HB.out 1 _ rfl
  have HK : Hid (IntsAt wd s.k.a s.k.n c.consts) := HW2.out.cd.consts.below HW2.out.low
  obtain ⟨kb, ko, hka, hkc⟩ := HK.out.cells (by omega)
  have k1 := hkc q hq
  have c8 := HW2.out.cell 8 (by omega) (v := .slice (some ⟨kb, ko, none⟩) s.k.n s.k.c) (by rw [← hka]; rfl)
  have hks := HK.out.short
  unfold maxLen at hks
  have r0 : wd.cell? ⟨b, 15 + p * 3, none⟩ = some (.bool (M.regs p).has) := HW2.out.reg (m := 0) hp (by omega)
  have r2 : wd.cell? ⟨b, 15 + p * 3 + 2, none⟩ = some (.int .i64 (M.regs p).num) := HW2.out.reg (m := 2) hp (by omega)
  have f2 := HW2.out.fz (15 + p * 3 + 2)
  clear hkc hka
  go_quiet (fail)
  cases hh : (M.regs p).has
  · rw [hh] at r0
    go_wp2 <;> (go_end0; exact ⟨rfl, HW2.out.next (below_drewN (Below.refl _ _) _)⟩)
  · rw [hh] at r0
    go_wp2_with fail
    go_region
    go_wp2
    go_end0
    refine ⟨rfl, ?_⟩
    have HX := (HW2.out.next (below_drewN (Below.refl _ _) (nq + 1))).putN p (wrap64 ((M.regs p).num + c.consts.getD q 0))
    rw [hh] at HX
    exact HX
end
end Go.Proofs.YtnkfibahkmmnpaaGreat
namespace Go.Proofs.YtnkfibahkmmnpaaGreat
open Go.RowKit

section
variable {dq : Nat → Option (Array Value × Nat)} {w0 w : World} {b g gs : Nat} {c : Cd} {s : Ls} {sx sy sa : Sl} {x y : List Int} {i j : Nat} {M : Ms}
theorem size_keptW (w : World) (b k : Nat) (v : Ct) : (keptW w b k v).heap.size = w.heap.size := by simp [keptW, World.setCell]
set_option maxRecDepth 10000 in
set_option maxHeartbeats 1000000 in
theorem store_calls (h : Rn dq w0 w b g gs c s sx sy sa x y i j M) (o : Int) (p q : Nat) (r : Int) (hp : p < c.planes.toNat) (hq : q < 16) (hi : i ≤ x.length) (hj : j ≤ y.length) :
    Calls Tryz.prog 60 #[.pointer (some ⟨b, 0, none⟩), .agg #[.int .i64 o, .int .i64 p, .int .i64 q, .int .i64 r]] w fun e w' => e = .returned (.tuple #[]) ∧ Rn dq w0 w' b g gs c s sx sy sa x y i j { M with slots := updC M.slots (placeB c.planes.toNat y.length p i j) (if (M.regs q).has then M.regs q else ct0) } := by
  have hlb := h.lt.1
  have hqi : (q : Int) < 16 := by omega
  obtain ⟨vv, hvv⟩ : ∃ t, (if (M.regs q).has then M.regs q else ct0) = t := ⟨_, rfl⟩
  rw [hvv]
  have HV : Hid ((if (M.regs q).has then M.regs q else ct0) = vv) := hvv
  clear hvv
  have HR : Hid (∀ o, Rn dq w0 (w.alloc o) b g gs c s sx sy sa x y i j M) := fun o => h.next (below_new o)
  clear h
  go_enter Tryz.func60, Tryz.ntmps60
  go_upto_region 1 with (fail)
  have HW := HR.out (.cells #[.int .i64 o, .int .i64 p, .int .i64 q, .int .i64 r] 65)
  have HB : Hid ((w.alloc (.cells #[.int .i64 o, .int .i64 p, .int .i64 q, .int .i64 r] 65)).heap[w.heap.size]? = some (.cells #[.int .i64 o, .int .i64 p, .int .i64 q, .int .i64 r] 65 (0, 0))) := heap_alloc_new _ _
  clear HR
  have HW2 : Hid (Rn dq w0 (w.alloc (.cells #[.int .i64 o, .int .i64 p, .int .i64 q, .int .i64 r] 65)) b g gs c s sx sy sa x y i j M) := HW
  clear HW
  generalize w.alloc (.cells #[.int .i64 o, .int .i64 p, .int .i64 q, .int .i64 r] 65) = wd at *
  generalize w.heap.size = gb at *
  have HW3 : Hid (Rn dq w0 wd.drew b g gs c s sx sy sa x y i j M) := HW2.out.drew
  have HS : Hid (wd.drew.cell? ⟨b, 0, none⟩ = some (.pointer (some ⟨g, 0, none⟩)) ∧ wd.drew.cell? ⟨gb, 1, none⟩ = some (.int .i64 p) ∧ wd.drew.cell? ⟨b, 13, none⟩ = some (.int .i64 i) ∧ wd.drew.cell? ⟨b, 14, none⟩ = some (.int .i64 j) ∧ wd.drew.cell? ⟨gb, 2, none⟩ = some (.int .i64 q) ∧ wd.drew.cell? ⟨b, 15 + q * 3, none⟩ = some (.bool (M.regs q).has) ∧ wd.drew.cell? ⟨b, 15 + q * 3 + 1, none⟩ = some (.int .u16 (M.regs q).mask) ∧ wd.drew.cell? ⟨b, 15 + q * 3 + 2, none⟩ = some (.int .i64 (M.regs q).num)) :=
    ⟨HW3.out.cell 0 (by omega) rfl, cell_block HB.out 1 _ rfl, HW3.out.cell 13 (by omega) rfl, HW3.out.cell 14 (by omega) rfl, cell_block HB.out 2 _ rfl, HW3.out.reg (m := 0) hq (by omega), HW3.out.reg (m := 1) hq (by omega), HW3.out.reg (m := 2) hq (by omega)⟩
  have HC : Hid (Calls Tryz.prog 86 #[.pointer (some ⟨g, 0, none⟩), .int .i64 p, .int .i64 i, .int .i64 j, .agg #[.bool (M.regs q).has, .int .u16 (M.regs q).mask, .int .i64 (M.regs q).num]] wd.drew fun e w' => e = .returned (.tuple #[]) ∧ Below wd.drew.heap.size (keptW wd.drew gs (placeB c.planes.toNat y.length p i j) vv) w') := by
    have := keep_calls HW3.out.tb p i j (M.regs q) hp hi hj
    rw [HV.out] at this
    exact this
  clear HB HW2
  refine wp_region_Y (fun j => [23].contains j) (fun W : World => W.cell? ⟨b, 0, none⟩ = some (.pointer (some ⟨g, 0, none⟩)) ∧ W.cell? ⟨gb, 1, none⟩ = some (.int .i64 p) ∧ W.cell? ⟨b, 13, none⟩ = some (.int .i64 i) ∧ W.cell? ⟨b, 14, none⟩ = some (.int .i64 j) ∧ W.cell? ⟨gb, 2, none⟩ = some (.int .i64 q) ∧ W.cell? ⟨b, 15 + q * 3, none⟩ = some (.bool (M.regs q).has) ∧ W.cell? ⟨b, 15 + q * 3 + 1, none⟩ = some (.int .u16 (M.regs q).mask) ∧ W.cell? ⟨b, 15 + q * 3 + 2, none⟩ = some (.int .i64 (M.regs q).num)) (by kernel_rfl) ?_
  refine wpAnyY_pure (i := 0) 4 (v := .pointer (some ⟨b, 0, none⟩)) rfl rfl (by kernel_rfl) (by kernel_rfl) (by kernel_rfl) (fun _ _ _ h => h) (Or.inl ⟨by rfl, by (intro W _; go_simp)⟩) ?_
  simp only [Act.put, List.setIfInBounds_toArray, List.set_cons_succ, List.set_cons_zero]
  refine wpAnyY_pure (i := 1) 5 (v := .pointer (some ⟨b, 0, none⟩)) rfl rfl (by kernel_rfl) (by kernel_rfl) (by kernel_rfl) (fun _ _ _ h => h) (Or.inl ⟨by rfl, by (intro W _; go_simp)⟩) ?_
  simp only [Act.put, List.setIfInBounds_toArray, List.set_cons_succ, List.set_cons_zero]
  refine wpAnyY_pure (i := 2) 6 (v := .pointer (some ⟨b, 0, none⟩)) rfl rfl (by kernel_rfl) (by kernel_rfl) (by kernel_rfl) (fun _ _ _ h => h) (Or.inl ⟨by rfl, by (intro W _; go_simp)⟩) ?_
  simp only [Act.put, List.setIfInBounds_toArray, List.set_cons_succ, List.set_cons_zero]
  refine wpAnyY_takeD (i := 3) 7 (v := .pointer (some ⟨g, 0, none⟩)) rfl rfl (by kernel_rfl) (by kernel_rfl) (late_of (by kernel_rfl)) (by kernel_rfl) (by kernel_rfl) (fun _ _ _ h => h) HS.out (Or.inl ⟨by rfl, by (intro W hW; obtain ⟨e0, e1, e2, e3, e4, e5, e6, e7⟩ := hW; go_simp)⟩) ?_
  simp only [Act.put, List.setIfInBounds_toArray, List.set_cons_succ, List.set_cons_zero]
  refine wpAnyY_pure (i := 4) 8 (v := .pointer (some ⟨g, 0, none⟩)) rfl rfl (by kernel_rfl) (by kernel_rfl) (by kernel_rfl) (fun _ _ _ h => h) (Or.inl ⟨by rfl, by (intro W _; go_simp)⟩) ?_
  simp only [Act.put, List.setIfInBounds_toArray, List.set_cons_succ, List.set_cons_zero]
  refine wpAnyY_pure (i := 5) 9 (v := .pointer (some ⟨g, 0, none⟩)) rfl rfl (by kernel_rfl) (by kernel_rfl) (by kernel_rfl) (fun _ _ _ h => h) (Or.inl ⟨by rfl, by (intro W _; go_simp)⟩) ?_
  simp only [Act.put, List.setIfInBounds_toArray, List.set_cons_succ, List.set_cons_zero]
  refine wpAnyY_pure (i := 6) 10 (v := .pointer (some ⟨gb, 1, none⟩)) rfl rfl (by kernel_rfl) (by kernel_rfl) (by kernel_rfl) (fun _ _ _ h => h) (Or.inl ⟨by rfl, by (intro W _; go_simp)⟩) ?_
  simp only [Act.put, List.setIfInBounds_toArray, List.set_cons_succ, List.set_cons_zero]
  refine wpAnyY_takeD (i := 7) 11 (v := .int .i64 p) rfl rfl (by kernel_rfl) (by kernel_rfl) (late_of (by kernel_rfl)) (by kernel_rfl) (by kernel_rfl) (fun _ _ _ h => h) HS.out (Or.inl ⟨by rfl, by (intro W hW; obtain ⟨e0, e1, e2, e3, e4, e5, e6, e7⟩ := hW; go_simp)⟩) ?_
  simp only [Act.put, List.setIfInBounds_toArray, List.set_cons_succ, List.set_cons_zero]
  refine wpAnyY_pure (i := 8) 12 (v := .pointer (some ⟨b, 0, none⟩)) rfl rfl (by kernel_rfl) (by kernel_rfl) (by kernel_rfl) (fun _ _ _ h => h) (Or.inl ⟨by rfl, by (intro W _; go_simp)⟩) ?_
  simp only [Act.put, List.setIfInBounds_toArray, List.set_cons_succ, List.set_cons_zero]
  refine wpAnyY_pure (i := 9) 13 (v := .pointer (some ⟨b, 0, none⟩)) rfl rfl (by kernel_rfl) (by kernel_rfl) (by kernel_rfl) (fun _ _ _ h => h) (Or.inl ⟨by rfl, by (intro W _; go_simp)⟩) ?_
  simp only [Act.put, List.setIfInBounds_toArray, List.set_cons_succ, List.set_cons_zero]
  refine wpAnyY_pure (i := 10) 14 (v := .pointer (some ⟨b, 13, none⟩)) rfl rfl (by kernel_rfl) (by kernel_rfl) (by kernel_rfl) (fun _ _ _ h => h) (Or.inl ⟨by rfl, by (intro W _; go_simp)⟩) ?_
  simp only [Act.put, List.setIfInBounds_toArray, List.set_cons_succ, List.set_cons_zero]
  refine wpAnyY_takeD (i := 11) 15 (v := .int .i64 i) rfl rfl (by kernel_rfl) (by kernel_rfl) (late_of (by kernel_rfl)) (by kernel_rfl) (by kernel_rfl) (fun _ _ _ h => h) HS.out (Or.inl ⟨by rfl, by (intro W hW; obtain ⟨e0, e1, e2, e3, e4, e5, e6, e7⟩ := hW; go_simp)⟩) ?_
  simp only [Act.put, List.setIfInBounds_toArray, List.set_cons_succ, List.set_cons_zero]
  refine wpAnyY_pure (i := 12) 16 (v := .pointer (some ⟨b, 0, none⟩)) rfl rfl (by kernel_rfl) (by kernel_rfl) (by kernel_rfl) (fun _ _ _ h => h) (Or.inl ⟨by rfl, by (intro W _; go_simp)⟩) ?_
  simp only [Act.put, List.setIfInBounds_toArray, List.set_cons_succ, List.set_cons_zero]
  refine wpAnyY_pure (i := 13) 17 (v := .pointer (some ⟨b, 0, none⟩)) rfl rfl (by kernel_rfl) (by kernel_rfl) (by kernel_rfl) (fun _ _ _ h => h) (Or.inl ⟨by rfl, by (intro W _; go_simp)⟩) ?_
  simp only [Act.put, List.setIfInBounds_toArray, List.set_cons_succ, List.set_cons_zero]
  refine wpAnyY_pure (i := 14) 18 (v := .pointer (some ⟨b, 14, none⟩)) rfl rfl (by kernel_rfl) (by kernel_rfl) (by kernel_rfl) (fun _ _ _ h => h) (Or.inl ⟨by rfl, by (intro W _; go_simp)⟩) ?_
  simp only [Act.put, List.setIfInBounds_toArray, List.set_cons_succ, List.set_cons_zero]
  refine wpAnyY_takeD (i := 15) 19 (v := .int .i64 j) rfl rfl (by kernel_rfl) (by kernel_rfl) (late_of (by kernel_rfl)) (by kernel_rfl) (by kernel_rfl) (fun _ _ _ h => h) HS.out (Or.inl ⟨by rfl, by (intro W hW; obtain ⟨e0, e1, e2, e3, e4, e5, e6, e7⟩ := hW; go_simp)⟩) ?_
  simp only [Act.put, List.setIfInBounds_toArray, List.set_cons_succ, List.set_cons_zero]
  refine wpAnyY_pure (i := 16) 20 (v := .pointer (some ⟨b, 0, none⟩)) rfl rfl (by kernel_rfl) (by kernel_rfl) (by kernel_rfl) (fun _ _ _ h => h) (Or.inl ⟨by rfl, by (intro W _; go_simp)⟩) ?_
  simp only [Act.put, List.setIfInBounds_toArray, List.set_cons_succ, List.set_cons_zero]
  refine wpAnyY_pure (i := 17) 21 (v := .pointer (some ⟨gb, 2, none⟩)) rfl rfl (by kernel_rfl) (by kernel_rfl) (by kernel_rfl) (fun _ _ _ h => h) (Or.inl ⟨by rfl, by (intro W _; go_simp)⟩) ?_
  simp only [Act.put, List.setIfInBounds_toArray, List.set_cons_succ, List.set_cons_zero]
  refine wpAnyY_takeD (i := 18) 22 (v := .int .i64 q) rfl rfl (by kernel_rfl) (by kernel_rfl) (late_of (by kernel_rfl)) (by kernel_rfl) (by kernel_rfl) (fun _ _ _ h => h) HS.out (Or.inl ⟨by rfl, by (intro W hW; obtain ⟨e0, e1, e2, e3, e4, e5, e6, e7⟩ := hW; go_simp)⟩) ?_
  simp only [Act.put, List.setIfInBounds_toArray, List.set_cons_succ, List.set_cons_zero]
  refine wpAnyY_pure (i := 19) 23 (v := .pointer (some ⟨b, 0, none⟩)) rfl rfl (by kernel_rfl) (by kernel_rfl) (by kernel_rfl) (fun _ _ _ h => h) (Or.inl ⟨by rfl, by (intro W _; go_simp)⟩) ?_
  simp only [Act.put, List.setIfInBounds_toArray, List.set_cons_succ, List.set_cons_zero]
  refine wpAnyY_pure (i := 20) 24 (v := .pointer (some ⟨b, 15, none⟩)) rfl rfl (by kernel_rfl) (by kernel_rfl) (by kernel_rfl) (fun _ _ _ h => h) (Or.inl ⟨by rfl, by (intro W _; go_simp)⟩) ?_
  simp only [Act.put, List.setIfInBounds_toArray, List.set_cons_succ, List.set_cons_zero]
  refine wpAnyY_pure (i := 21) 25 (v := .pointer (some ⟨b, 15 + q * 3, none⟩)) rfl rfl (by kernel_rfl) (by kernel_rfl) (by kernel_rfl) (fun _ _ _ h => h) (Or.inl ⟨by rfl, by (intro W _; go_simp)⟩) ?_
  simp only [Act.put, List.setIfInBounds_toArray, List.set_cons_succ, List.set_cons_zero]
  refine wpAnyY_takeD (i := 22) 26 (v := .agg #[.bool (M.regs q).has, .int .u16 (M.regs q).mask, .int .i64 (M.regs q).num]) rfl rfl (by kernel_rfl) (by kernel_rfl) (late_of (by kernel_rfl)) (by kernel_rfl) (by kernel_rfl) (fun _ _ _ h => h) HS.out (Or.inl ⟨by rfl, by (intro W hW; obtain ⟨e0, e1, e2, e3, e4, e5, e6, e7⟩ := hW; go_simp)⟩) ?_
  simp only [Act.put, List.setIfInBounds_toArray, List.set_cons_succ, List.set_cons_zero]
  refine wpAnyY_one (i := 23) rfl (by kernel_rfl) (fun Kc hKc => ?_)
  refine step_fnD 27 rfl (by rfl) 86 _ _ rfl Tryz.f86 Tryz.func86 (by kernel_rfl) (by kernel_rfl) #[.pointer (some ⟨g, 0, none⟩), .int .i64 p, .int .i64 i, .int .i64 j, .agg #[.bool (M.regs q).has, .int .u16 (M.regs q).mask, .int .i64 (M.regs q).num]] (by simp [Act.eval]) (HC.out) ?_
  rintro e we ⟨rfl, hd⟩
  refine ⟨_, rfl, hKc.out _ _ (fun h => absurd h (by decide)) ?_⟩
  clear hKc Kc
  simp only [Act.put, List.setIfInBounds_toArray, List.set_cons_succ, List.set_cons_zero]
  refine wpAnyY_done (by kernel_rfl) ?_ _
  have HF : Hid (Rn dq w0 we b g gs c s sx sy sa x y i j { M with slots := updC M.slots (placeB c.planes.toNat y.length p i j) vv }) := (HW3.out.putS _ _).next (by rw [size_keptW]; exact hd)
  clear hd HS HW3 HC
  go_wp2
  go_end0
  exact ⟨rfl, HF.out⟩
end
end Go.Proofs.YtnkfibahkmmnpaaGreat
namespace Go.Proofs.YtnkfibahkmmnpaaGreat
open Go.RowKit

section
variable {dq : Nat → Option (Array Value × Nat)} {w0 w : World} {b g gs : Nat} {c : Cd} {s : Ls} {sx sy sa : Sl} {x y : List Int} {i j : Nat} {M : Ms}
theorem Rn.putB (h : Rn dq w0 w b g gs c s sx sy sa x y i j M) (k : Nat) (t : Bool) : Rn dq w0 (w.setCell ⟨b, 15 + k * 3, none⟩ (.bool t)) b g gs c s sx sy sa x y i j { M with regs := updC M.regs k ⟨t, (M.regs k).mask, (M.regs k).num⟩ } :=
  h.putC k 0 (by omega) _ _ (fun t ht => by
    have : t = 0 ∨ t = 1 ∨ t = 2 := by omega
    rcases this with rfl | rfl | rfl <;> rfl)
set_option maxRecDepth 10000 in
set_option maxHeartbeats 1000000 in
theorem table_edge (h : Rn dq w0 w b g gs c s sx sy sa x y i j M) (o : Int) (p : Nat) (q r : Int) (hp : p < 16) (he : i = 0 ∨ j = 0) :
    Calls Tryz.prog 58 #[.pointer (some ⟨b, 0, none⟩), .agg #[.int .i64 o, .int .i64 p, .int .i64 q, .int .i64 r]] w fun e w' => e = .returned (.tuple #[]) ∧ Rn dq w0 w' b g gs c s sx sy sa x y i j { M with regs := updC M.regs p ⟨false, (M.regs p).mask, 0⟩ } := by
  have hlb := h.lt.1
  have HR : Hid (∀ o, Rn dq w0 (w.alloc o) b g gs c s sx sy sa x y i j M) := fun o => h.next (below_new o)
  clear h
  go_enter Tryz.func58, Tryz.ntmps58
  go_upto_region 1 with (fail)
  have HW := HR.out (.cells #[.int .i64 o, .int .i64 p, .int .i64 q, .int .i64 r] 65)
  have HB : Hid ((w.alloc (.cells #[.int .i64 o, .int .i64 p, .int .i64 q, .int .i64 r] 65)).heap[w.heap.size]? = some (.cells #[.int .i64 o, .int .i64 p, .int .i64 q, .int .i64 r] 65 (0, 0))) := heap_alloc_new _ _
  clear HR
  have HW2 : Hid (Rn dq w0 (w.alloc (.cells #[.int .i64 o, .int .i64 p, .int .i64 q, .int .i64 r] 65)) b g gs c s sx sy sa x y i j M) := HW
  clear HW
  generalize w.alloc (.cells #[.int .i64 o, .int .i64 p, .int .i64 q, .int .i64 r] 65) = wd at *
  generalize w.heap.size = gb at *
  have hlb2 := HW2.out.lt.1
  have q1 := cell_block HB.out 1 _ rfl
  have c13 := HW2.out.cell 13 (by omega) (v := .int .i64 i) rfl
  have c14 := HW2.out.cell 14 (by omega) (v := .int .i64 j) rfl
  have r0 : wd.cell? ⟨b, 15 + p * 3, none⟩ = some (.bool (M.regs p).has) := HW2.out.reg (m := 0) hp (by omega)
  have r2 : wd.cell? ⟨b, 15 + p * 3 + 2, none⟩ = some (.int .i64 (M.regs p).num) := HW2.out.reg (m := 2) hp (by omega)
  have f0 := HW2.out.fz (15 + p * 3)
  have f2 := HW2.out.fz (15 + p * 3 + 2)
  go_quiet (fail)
  have HX : Hid (Rn dq w0 (((wd.drewN nq).setCell ⟨b, 15 + p * 3, none⟩ (.bool false)).setCell ⟨b, 15 + p * 3 + 2, none⟩ (.int .i64 0)) b g gs c s sx sy sa x y i j { M with regs := updC M.regs p ⟨false, (M.regs p).mask, 0⟩ }) := by
    have := ((HW2.out.next (below_drewN (Below.refl _ _) nq)).putB p false).putN p 0
    simp only [updC_same, updC_twice] at this
    exact this
  by_cases h0 : i = 0
  · have b0 : ((i : Int) == 0) = true := by simp [h0]
    clear he h0
    go_wp2
    go_end0
    exact ⟨rfl, HX.out⟩
  · have b0 : ((i : Int) == 0) = false := by simp [h0]
    have b1 : ((j : Int) == 0) = true := by simp; omega
    clear he h0
    go_wp2
    go_end0
    exact ⟨rfl, HX.out⟩
end
end Go.Proofs.YtnkfibahkmmnpaaGreat
