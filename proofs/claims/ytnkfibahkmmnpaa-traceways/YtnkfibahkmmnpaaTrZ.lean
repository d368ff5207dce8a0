/-
  What the laws keep: the box of a set; the columns' bytes.
-/
import Derived.Test.YtnkfibahkmmnpaaKr
import Derived.Test.YtnkfibahkmmnpaaMlA
namespace Go.Proofs.Ytnkfibahkmmnpaa
open Go.RowKit

/-- The box of the set, behind all that stands. -/
structure Sb (w7 W : World) (s : Nat → Bool) (i j : Int) : Prop where
  box : W.heap[w7.heap.size]? = some (.cells (stC s i j) 48 (0, 0))
  low : Below w7.heap.size w7 W
def stored (W : World) (b : Nat) (r : Nat → Bool) (i2 j2 : Int) : World := ((((((((((((W.setCell ⟨b, 0, none⟩ (.bool (r 0))).setCell ⟨b, 1, none⟩ (.bool (r 1))).setCell ⟨b, 2, none⟩ (.bool (r 2))).setCell ⟨b, 3, none⟩ (.bool (r 3))).setCell ⟨b, 4, none⟩ (.bool (r 4))).setCell ⟨b, 5, none⟩ (.bool (r 5))).setCell ⟨b, 6, none⟩ (.bool (r 6))).setCell ⟨b, 7, none⟩ (.bool (r 7))).setCell ⟨b, 8, none⟩ (.bool (r 8))).setCell ⟨b, 9, none⟩ (.bool (r 9))).setCell ⟨b, 10, none⟩ (.int .i64 i2)).setCell ⟨b, 11, none⟩ (.int .i64 j2))
theorem stC_putV (r : Nat → Bool) (i j : Int) {p : Nat} (hp : p < 10) (v : Bool) : (stC r i j).setIfInBounds p (.bool v) = stC (putV r p v) i j := by
  have : p = 0 ∨ p = 1 ∨ p = 2 ∨ p = 3 ∨ p = 4 ∨ p = 5 ∨ p = 6 ∨ p = 7 ∨ p = 8 ∨ p = 9 := by omega
  rcases this with rfl | rfl | rfl | rfl | rfl | rfl | rfl | rfl | rfl | rfl <;> rfl
theorem stC_all (s r : Nat → Bool) (i j : Int) : stC (putV (putV (putV (putV (putV (putV (putV (putV (putV (putV s 0 (r 0)) 1 (r 1)) 2 (r 2)) 3 (r 3)) 4 (r 4)) 5 (r 5)) 6 (r 6)) 7 (r 7)) 8 (r 8)) 9 (r 9)) i j = stC r i j := rfl
section
variable {w7 W V : World} {s : Nat → Bool} {i j : Int}
theorem Sb.next (h : Sb w7 W s i j) (hb : Below W.heap.size W V) : Sb w7 V s i j := ⟨by rw [hb.block _ (lt_block h.box)]; exact h.box, h.low.trans (hb.mono h.low.size)⟩
theorem Sb.start (w7 : World) (i j : Int) : Sb w7 (w7.alloc (.cells (stC (fun _ => false) i j) 48)) (fun _ => false) i j := ⟨heap_alloc_new _ _, below_new _⟩
theorem Sb.put (h : Sb w7 W s i j) {p : Nat} (hp : p < 10) (v : Bool) : Sb w7 (W.setCell ⟨w7.heap.size, p, none⟩ (.bool v)) (putV s p v) i j :=
  ⟨by rw [heap_setCell_same _ _ _ _ _ _ h.box, stC_putV _ _ _ hp], h.low.setCell (p := ⟨w7.heap.size, p, none⟩) (Nat.le_refl _) _⟩
theorem Sb.put1 (h : Sb w7 W s i j) {p : Nat} (hp : p < 10) : Sb w7 (W.setCell ⟨w7.heap.size, p, none⟩ (.bool true)) (putP s p) i j := h.put hp true
theorem Sb.putI (h : Sb w7 W s i j) (n : Int) : Sb w7 (W.setCell ⟨w7.heap.size, 10, none⟩ (.int .i64 n)) s n j :=
  ⟨by rw [heap_setCell_same _ _ _ _ _ _ h.box]; rfl, h.low.setCell (p := ⟨w7.heap.size, 10, none⟩) (Nat.le_refl _) _⟩
theorem Sb.putJ (h : Sb w7 W s i j) (n : Int) : Sb w7 (W.setCell ⟨w7.heap.size, 11, none⟩ (.int .i64 n)) s i n :=
  ⟨by rw [heap_setCell_same _ _ _ _ _ _ h.box]; rfl, h.low.setCell (p := ⟨w7.heap.size, 11, none⟩) (Nat.le_refl _) _⟩
theorem Sb.all (h : Sb w7 W s i j) (r : Nat → Bool) (i2 j2 : Int) : Sb w7 (stored W w7.heap.size r i2 j2) r i2 j2 := by
  have z0 := h.put (p := 0) (by omega) (r 0)
  have z1 := z0.put (p := 1) (by omega) (r 1)
  have z2 := z1.put (p := 2) (by omega) (r 2)
  have z3 := z2.put (p := 3) (by omega) (r 3)
  have z4 := z3.put (p := 4) (by omega) (r 4)
  have z5 := z4.put (p := 5) (by omega) (r 5)
  have z6 := z5.put (p := 6) (by omega) (r 6)
  have z7 := z6.put (p := 7) (by omega) (r 7)
  have z8 := z7.put (p := 8) (by omega) (r 8)
  have z9 := z8.put (p := 9) (by omega) (r 9)
  have z := (z9.putI i2).putJ j2
  exact ⟨by have e := z.box; rw [stC_all] at e; exact e, z.low⟩
end
theorem colS_size (l : List Int) : (colS l).size = l.length := by simp [colS, ByteArray.size]
theorem run_col (l : List Int) (k q : Nat) (hk : k < l.length) (hq : q + k + 1 = l.length) (hc : l.getD k 0 = 77 ∨ l.getD k 0 = 68 ∨ l.getD k 0 = 73) (S : ByteArray) (hS : colS l = S) (W : World) :
    (Instr.index 9 (.string S) (.int .i64 (q : Int))).run Try.prog W = .ok (.int .u8 (l.getD k 0)) W := by
  subst hS
  rw [run_index_string W 9 _ .i64 _ Try.underlying9]
  have hs := colS_size l
  rw [dif_pos ⟨by omega, by omega⟩]
  have e : (colS l)[((q : Int)).toNat]'(by rw [hs]; omega) = u8O (l.getD k 0) := by
    have h1 : (colS l).data.toList[q]? = some (u8O (l.getD k 0)) := by
      show (((l.map u8O).reverse).toArray).toList[q]? = _
      rw [List.toList_toArray, List.getElem?_reverse (by simp; omega), List.length_map, List.getElem?_map, show l.length - 1 - q = k by omega, List.getD_eq_getElem?_getD, List.getElem?_eq_getElem hk]
      rfl
    have h2 := getElem?_at (colS l) q (by rw [hs]; omega)
    rw [h1] at h2
    injection h2 with h3
    exact h3.symm
  have e2 : ∀ z : Int, z = 77 ∨ z = 68 ∨ z = 73 → ((u8O z).toNat : Int) = z := by
    rintro z (rfl | rfl | rfl) <;> rfl
  rw [e, e2 _ hc]
theorem col_is (st : Int) : colB st = 77 ∨ colB st = 68 ∨ colB st = 73 := by
  unfold colB
  split
  · exact Or.inl rfl
  split
  · exact Or.inr (Or.inl rfl)
  · exact Or.inr (Or.inr rfl)
theorem msk_is (c : Cd) (x y : List Int) (i j : Nat) : msk c.planes.toNat x.length y.length (runM c x y).slots (i : Int) (j : Int) = maskB c x y i j := rfl
theorem run_ok {c : Cd} (hg : Gk c) (x y : List Int) (p i j : Int) : okN (atB c.planes.toNat x.length y.length (runM c x y).slots p i j) := by
  unfold atB
  split
  · exact (run_kept hg x y).ok.slots _
  · exact ok_ct0
theorem Gk.arw2 {c : Cd} (h : Gk c) : ∀ a ∈ c.arrows, (0 ≤ a.1 ∧ a.1 < 10) ∧ (0 ≤ a.2.1 ∧ a.2.1 ≤ 15) ∧ (0 ≤ a.2.2.1 ∧ a.2.2.1 < 10) ∧ (1 ≤ a.2.2.2 ∧ a.2.2.2 ≤ 3) := fun a ha => by
  have h1 := h.arw ha
  have h2 := h.ten
  omega
/-- Goes, at a run's table. -/
theorem goesR {c : Cd} (hg : Gk c) {x y : List Int} {w : World} {g gs : Nat} {ta : Sl} {e : En} {sp : Int} (hT : Tb w g gs c.planes.toNat x.length y.length ta (runM c x y).slots e sp) (ha : QdsAt w ta.a ta.n c.arrows) (s : Nat → Bool) (i j : Nat) (hi : i ≤ 65536) (hj : j ≤ 65536) (st : Int) (hst : 1 ≤ st ∧ st ≤ 3) :
    Calls Try.prog 14 #[.pointer (some ⟨g, 0, none⟩), .agg (stC s (i : Int) (j : Int)), .int .u8 (colB st)] w fun r w' => r = .returned (.tuple #[.agg (stC (goL (maskB c x y i j) s st c.arrows).1 ((i : Int) - (backB st).1) ((j : Int) - (backB st).2)), .bool (goL (maskB c x y i j) s st c.arrows).2]) ∧ Below w.heap.size w w' := by
  have hl : ta.n ≤ 100000 := by have h1 := ha.length; have h2 := hg.rt.alen; omega
  have : st = 1 ∨ st = 2 ∨ st = 3 := by omega
  rcases this with rfl | rfl | rfl
  · exact goes_1 hT c.arrows ha hl s i j (by omega) (by omega) (run_ok hg x y · i j) hg.arw2
  · refine (goes_2 hT c.arrows ha hl s i j (by omega) (by omega) (run_ok hg x y · i j) hg.arw2).mono fun r w' h => ?_
    rw [show (j : Int) - (backB 2).2 = j from Int.sub_zero _]
    exact h
  · refine (goes_3 hT c.arrows ha hl s i j (by omega) (by omega) (run_ok hg x y · i j) hg.arw2).mono fun r w' h => ?_
    rw [show (i : Int) - (backB 3).1 = i from Int.sub_zero _]
    exact h

end Go.Proofs.Ytnkfibahkmmnpaa
