/-
  The look in memory: a code, sixteen registers, ten planes, the greatest weight.
-/
import Derived.Deep.WholeRow
import Derived.Deep.MidRow
import Derived.Test.YtnkfibahkmmnpaaGreatKad
import Derived.Test.YtnkfibahkmmnpaaGreatKl
namespace Go.Proofs.YtnkfibahkmmnpaaGreat
open Go.RowKit

def rgCell (r : Rg) (v : Value) (i : Nat) : Value :=
  if i = 0 then .bool r.wr else if i = 1 then .int .i64 r.kind else if i = 2 then .int .i64 r.plane else if i = 3 then .int .i64 r.step else if i = 4 then .bool r.met else if i = 5 then v else .int .i64 r.weight
def lkF (c : Cd) (s : Ls) (S : St) (wv : Nat → Value) (i : Nat) : Value :=
  if i < 10 then (cdCells c s).getD i undef else if i < 122 then rgCell (S.regs ((i - 10) / 7)) (wv ((i - 10) / 7)) ((i - 10) % 7)
  else if i < 142 then (if (i - 122) % 2 = 0 then .bool (S.pl ((i - 122) / 2)).1 else .int .i64 (S.pl ((i - 122) / 2)).2) else .int .i64 S.top
def lkCells (c : Cd) (s : Ls) (S : St) (wv : Nat → Value) : Array Value := Array.ofFn (n := 143) fun i => lkF c s S wv i.val
theorem lk_size (c : Cd) (s : Ls) (S : St) (wv : Nat → Value) : (lkCells c s S wv).size = 143 := by simp [lkCells]
theorem lk_get (c : Cd) (s : Ls) (S : St) (wv : Nat → Value) {i : Nat} (h : i < 143) : (lkCells c s S wv)[i]? = some (lkF c s S wv i) := by
  simp [lkCells, h]
theorem lk_set {c : Cd} {s : Ls} {S S' : St} {wv wv' : Nat → Value} {i : Nat} {v : Value} (h : ∀ j, j < 143 → (if j = i then v else lkF c s S wv j) = lkF c s S' wv' j) : (lkCells c s S wv).setIfInBounds i v = lkCells c s S' wv' := by
  apply Array.ext_getElem?
  intro j
  rw [Array.getElem?_setIfInBounds]
  by_cases hj : j < 143
  · have := h j hj
    rw [lk_get _ _ _ _ hj, lk_get _ _ _ _ hj, ← this, lk_size]
    by_cases e : i = j
    · subst e; simp [hj]
    · have e' : ¬ j = i := fun h => e h.symm
      simp [e, e']
  · rw [Array.getElem?_eq_none (by rw [lk_size]; omega), Array.getElem?_eq_none (by rw [lk_size]; omega)]
    simp [lk_size]
    omega
def upV (f : Nat → Value) (k : Nat) (v : Value) : Nat → Value := fun i => if i = k then v else f i
theorem upV_same (f : Nat → Value) (k : Nat) (v : Value) : upV f k v k = v := if_pos rfl
theorem upV_ne (f : Nat → Value) {k i : Nat} (v : Value) (h : i ≠ k) : upV f k v i = f i := if_neg h
/-- The register in the midst of a store: its first n cells are the new ones. -/
def rgMix (n : Nat) (x r : Rg) (v u : Value) (i : Nat) : Value := if i < n then rgCell x v i else rgCell r u i
theorem mod_self7 (k i : Nat) (h : i < 7) : (10 + k * 7 + i - 10) / 7 = k ∧ (10 + k * 7 + i - 10) % 7 = i := by omega
theorem lk_reg (c : Cd) (s : Ls) (S : St) (wv : Nat → Value) (k i : Nat) (hk : k < 16) (hi : i < 7) : lkF c s S wv (10 + k * 7 + i) = rgCell (S.regs k) (wv k) i := by
  unfold lkF
  rw [if_neg (by omega), if_pos (by omega), (mod_self7 k i hi).1, (mod_self7 k i hi).2]
theorem lk_pl0 (c : Cd) (s : Ls) (S : St) (wv : Nat → Value) (k : Nat) (hk : k < 10) : lkF c s S wv (122 + k * 2) = .bool (S.pl k).1 := by
  unfold lkF
  rw [if_neg (by omega), if_neg (by omega), if_pos (by omega), if_pos (by omega), show (122 + k * 2 - 122) / 2 = k by omega]
theorem lk_pl1 (c : Cd) (s : Ls) (S : St) (wv : Nat → Value) (k : Nat) (hk : k < 10) : lkF c s S wv (122 + k * 2 + 1) = .int .i64 (S.pl k).2 := by
  unfold lkF
  rw [if_neg (by omega), if_neg (by omega), if_pos (by omega), if_neg (by omega), show (122 + k * 2 + 1 - 122) / 2 = k by omega]
theorem lk_top (c : Cd) (s : Ls) (S : St) (wv : Nat → Value) : lkF c s S wv 142 = .int .i64 S.top := rfl

/-- The look's box at b; the code's lists lie below w0's end, and stay. -/
structure Lk (w0 w : World) (b : Nat) (c : Cd) (s : Ls) (S : St) (wv : Nat → Value) : Prop where
  box : w.heap[b]? = some (.cells (lkCells c s S wv) 128 (0, 0))
  cd : CdAt w0 c s
  low : Below w0.heap.size w0 w
  le : w0.heap.size ≤ b
  rows : ∀ r, r < 16 → w.ownsRow b 180 4 (wv r) (S.regs r).ways.length (qdVals (S.regs r).ways)
  apart : ∀ r r', r < 16 → r' < 16 → r ≠ r' → (wv r).ownBlock = none ∨ (wv r).ownBlock ≠ (wv r').ownBlock
section
variable {w0 w : World} {b : Nat} {c : Cd} {s : Ls} {S : St} {wv : Nat → Value}
theorem Lk.lt (h : Lk w0 w b c s S wv) : b < w.heap.size := lt_block h.box
theorem Lk.cell (h : Lk w0 w b c s S wv) {i : Nat} (hi : i < 143) : w.cell? ⟨b, i, none⟩ = some (lkF c s S wv i) := cell_block h.box i _ (lk_get _ _ _ _ hi)
theorem Lk.fz (h : Lk w0 w b c s S wv) (i : Nat) : w.frozen? ⟨b, i, none⟩ = false := frozen_of_row w b i _ _ h.box
theorem Lk.code (h : Lk w0 w b c s S wv) (i : Nat) (hi : i < 10) {v : Value} (hv : (cdCells c s).getD i undef = v) : w.cell? ⟨b, i, none⟩ = some v := by
  rw [h.cell (by omega)]; unfold lkF; rw [if_pos hi, hv]
theorem Lk.reg (h : Lk w0 w b c s S wv) (k i : Nat) (hk : k < 16) (hi : i < 7) {v : Value} (hv : rgCell (S.regs k) (wv k) i = v) : w.cell? ⟨b, 10 + k * 7 + i, none⟩ = some v := by
  rw [h.cell (by omega), lk_reg _ _ _ _ k i hk hi, hv]
theorem Lk.pl0 (h : Lk w0 w b c s S wv) (k : Nat) (hk : k < 10) : w.cell? ⟨b, 122 + k * 2, none⟩ = some (.bool (S.pl k).1) := by
  rw [h.cell (by omega), lk_pl0 _ _ _ _ k hk]
theorem Lk.pl1 (h : Lk w0 w b c s S wv) (k : Nat) (hk : k < 10) : w.cell? ⟨b, 122 + k * 2 + 1, none⟩ = some (.int .i64 (S.pl k).2) := by
  rw [h.cell (by omega), lk_pl1 _ _ _ _ k hk]
theorem Lk.top (h : Lk w0 w b c s S wv) : w.cell? ⟨b, 142, none⟩ = some (.int .i64 S.top) := h.cell (by omega)
theorem Lk.at' (h : Lk w0 w b c s S wv) : CdAt w c s := h.cd.below h.low
/-- What only makes memory leaves the look. -/
theorem Lk.next {w' : World} (h : Lk w0 w b c s S wv) (hb : Below w.heap.size w w') : Lk w0 w' b c s S wv :=
  ⟨by rw [hb.block b h.lt]; exact h.box, h.cd, h.low.trans (hb.mono h.low.size), h.le, fun r hr => owned_below (h.rows r hr) hb, h.apart⟩
theorem Lk.alloc (h : Lk w0 w b c s S wv) (o : Obj) : Lk w0 (w.alloc o) b c s S wv := h.next (below_new o)
theorem Lk.drewN (h : Lk w0 w b c s S wv) (n : Nat) : Lk w0 (w.drewN n) b c s S wv := h.next (below_drewN (Below.refl _ _) n)
theorem low_set {w0 w : World} {b : Nat} (h : Below w0.heap.size w0 w) (le : w0.heap.size ≤ b) (i : Nat) (v : Value) : Below w0.heap.size w0 (w.setCell ⟨b, i, none⟩ v) := h.setCell le v
/-- A store into one cell of the box. -/
theorem Lk.put (h : Lk w0 w b c s S wv) {S' : St} {i : Nat} {v : Value} (hF : ∀ j, j < 143 → (if j = i then v else lkF c s S wv j) = lkF c s S' wv j) (hw : ∀ r, (S'.regs r).ways = (S.regs r).ways) : Lk w0 (w.setCell ⟨b, i, none⟩ v) b c s S' wv :=
  ⟨by rw [heap_setCell_same w b i _ _ v h.box, lk_set hF], h.cd, low_set h.low h.le i v, h.le, fun r hr => by rw [hw r]; exact owned_setOther (h.rows r hr) h.box (by decide) v, h.apart⟩
theorem Lk.below_put (_h : Lk w0 w b c s S wv) (i : Nat) (v : Value) : Below b w (w.setCell ⟨b, i, none⟩ v) := (Below.refl b w).setCell (p := ⟨b, i, none⟩) (Nat.le_refl b) v
theorem Lk.weigh (h : Lk w0 w b c s S wv) (n : Int) {z : Int} (hz : z = max S.top n) : Lk w0 (w.setCell ⟨b, 142, none⟩ (.int .i64 z)) b c s (weighP S n) wv := by
  refine h.put (fun j hj => ?_) (fun r => rfl)
  subst hz
  by_cases e : j = 142
  · rw [if_pos e, e]; rfl
  · rw [if_neg e]; unfold lkF
    split
    · rfl
    split
    · rfl
    split
    · rfl
    · omega
/-- A store into one cell of a register. -/
theorem Lk.putR (h : Lk w0 w b c s S wv) {k i : Nat} (hk : k < 16) (hi : i < 7) {v : Value} (x : Rg) (u : Value) (hF : ∀ j, j < 7 → (if j = i then v else rgCell (S.regs k) (wv k) j) = rgCell x u j)
    (hrow : w.ownsRow b 180 4 u x.ways.length (qdVals x.ways)) (hap : ∀ r, r < 16 → r ≠ k → u.ownBlock = none ∨ u.ownBlock ≠ (wv r).ownBlock) : Lk w0 (w.setCell ⟨b, 10 + k * 7 + i, none⟩ v) b c s (setR S k x) (upV wv k u) := by
  refine ⟨?_, h.cd, low_set h.low h.le _ v, h.le, fun r hr => ?_, fun r r' hr hr' hne => ?_⟩
  · rw [heap_setCell_same w b _ _ _ v h.box]
    rw [lk_set (S' := setR S k x) (wv' := upV wv k u) (fun j hj => ?_)]
    have key : ∀ m, m < 7 → (if 10 + k * 7 + m = 10 + k * 7 + i then v else lkF c s S wv (10 + k * 7 + m)) = lkF c s (setR S k x) (upV wv k u) (10 + k * 7 + m) := fun m hm => by
      rw [lk_reg _ _ _ _ k m hk hm, lk_reg _ _ _ _ k m hk hm]
      show _ = rgCell (updR S.regs k x k) (upV wv k u k) m
      rw [updR_same, upV_same, ← hF m hm]
      by_cases e : m = i
      · rw [if_pos e, if_pos (by omega)]
      · rw [if_neg e, if_neg (by omega)]
    by_cases e : 10 ≤ j ∧ j < 122 ∧ (j - 10) / 7 = k
    · have := key ((j - 10) % 7) (by omega)
      rwa [show 10 + k * 7 + (j - 10) % 7 = j by omega] at this
    · rw [if_neg (by omega)]
      unfold lkF
      split
      · rfl
      split
      · have e2 : (j - 10) / 7 ≠ k := by omega
        show _ = rgCell (updR S.regs k x ((j - 10) / 7)) (upV wv k u ((j - 10) / 7)) ((j - 10) % 7)
        rw [updR_ne _ _ e2, upV_ne _ _ e2]
      · rfl
  · show World.ownsRow _ _ _ _ (upV wv k u r) (updR S.regs k x r).ways.length (qdVals (updR S.regs k x r).ways)
    by_cases e : r = k
    · subst e; rw [updR_same, upV_same]; exact owned_setOther hrow h.box (by decide) v
    · rw [updR_ne _ _ e, upV_ne _ _ e]; exact owned_setOther (h.rows r hr) h.box (by decide) v
  · by_cases e : r = k
    · subst e
      rw [upV_same, upV_ne _ _ (Ne.symm hne)]
      exact hap r' hr' (Ne.symm hne)
    · rw [upV_ne _ _ e]
      by_cases e2 : r' = k
      · subst e2
        rw [upV_same]
        rcases hap r hr e with h0 | h0
        · by_cases h1 : (wv r).ownBlock = none
          · exact .inl h1
          · exact .inr (by rw [h0]; exact h1)
        · exact .inr (Ne.symm h0)
      · rw [upV_ne _ _ e2]; exact h.apart r r' hr hr' hne
theorem upV_self (f : Nat → Value) (k : Nat) : upV f k (f k) = f := by
  funext i; unfold upV; split
  · rename_i e; rw [e]
  · rfl
theorem upV_up (f : Nat → Value) (k : Nat) (u v : Value) : upV (upV f k u) k v = upV f k v := by
  funext i; unfold upV; split <;> rfl
theorem setR_up (S : St) (k : Nat) (x y : Rg) : setR (setR S k x) k y = setR S k y := by
  unfold setR updR; congr 1; funext i; simp only; split <;> rfl
/-- Likewise, but the list of ways stays. -/
theorem Lk.putK (h : Lk w0 w b c s S wv) {k i : Nat} (hk : k < 16) (hi : i < 7) {v : Value} (x : Rg) (hF : ∀ j, j < 7 → (if j = i then v else rgCell (S.regs k) (wv k) j) = rgCell x (wv k) j)
    (hw : x.ways = (S.regs k).ways) : Lk w0 (w.setCell ⟨b, 10 + k * 7 + i, none⟩ v) b c s (setR S k x) wv := by
  have := h.putR hk hi x (wv k) hF (by rw [hw]; exact h.rows k hk) (fun r hr hne => h.apart k r hk hr (Ne.symm hne))
  rwa [upV_self] at this
theorem seven {P : Nat → Prop} (h0 : P 0) (h1 : P 1) (h2 : P 2) (h3 : P 3) (h4 : P 4) (h5 : P 5) (h6 : P 6) : ∀ j, j < 7 → P j := by
  intro j hj
  have : j = 0 ∨ j = 1 ∨ j = 2 ∨ j = 3 ∨ j = 4 ∨ j = 5 ∨ j = 6 := by omega
  rcases this with rfl | rfl | rfl | rfl | rfl | rfl | rfl <;> assumption
theorem Lk.add (h : Lk w0 w b c s S wv) (k : Nat) (hk : k < 16) {z : Int} (hz : z = (S.regs k).weight + 1) : Lk w0 (w.setCell ⟨b, 10 + k * 7 + 6, none⟩ (.int .i64 z)) b c s (setR S k (addB (S.regs k))) wv := by
  subst hz
  exact h.putK hk (by omega) (addB (S.regs k)) (seven rfl rfl rfl rfl rfl rfl rfl) rfl
theorem own_nil (w : World) (b : Nat) (e : TypeId) : w.ownsRow b e 4 (.slice none 0 0) 0 [] := ⟨rfl, .inl ⟨rfl, rfl⟩⟩
theorem regs_set (S : St) (k : Nat) (x : Rg) : (setR S k x).regs k = x := updR_same _ _ _
/-- A whole register is laid anew. -/
theorem Lk.write (h : Lk w0 w b c s S wv) {k : Nat} (hk : k < 16) (q : Bool) (d p t : Int) (m : Bool) (g : Int) :
    Lk w0 (((((((w.setCell ⟨b, 10 + k * 7, none⟩ (.bool q)).setCell ⟨b, 10 + k * 7 + 1, none⟩ (.int .i64 d)).setCell ⟨b, 10 + k * 7 + 2, none⟩ (.int .i64 p)).setCell ⟨b, 10 + k * 7 + 3, none⟩ (.int .i64 t)).setCell ⟨b, 10 + k * 7 + 4, none⟩ (.bool m)).setCell ⟨b, 10 + k * 7 + 5, none⟩ (.slice none 0 0)).setCell ⟨b, 10 + k * 7 + 6, none⟩ (.int .i64 g)) b c s (setR S k ⟨q, d, p, t, m, [], g⟩) (upV wv k (.slice none 0 0)) := by
  have r0 := h.putK (i := 0) hk (by omega) (v := .bool q) ⟨q, (S.regs k).kind, (S.regs k).plane, (S.regs k).step, (S.regs k).met, (S.regs k).ways, (S.regs k).weight⟩ (seven rfl rfl rfl rfl rfl rfl rfl) rfl
  have r1 := r0.putK (i := 1) hk (by omega) (v := .int .i64 d) ⟨q, d, (S.regs k).plane, (S.regs k).step, (S.regs k).met, (S.regs k).ways, (S.regs k).weight⟩ (by rw [regs_set]; exact seven rfl rfl rfl rfl rfl rfl rfl) (by rw [regs_set])
  rw [setR_up] at r1
  have r2 := r1.putK (i := 2) hk (by omega) (v := .int .i64 p) ⟨q, d, p, (S.regs k).step, (S.regs k).met, (S.regs k).ways, (S.regs k).weight⟩ (by rw [regs_set]; exact seven rfl rfl rfl rfl rfl rfl rfl) (by rw [regs_set])
  rw [setR_up] at r2
  have r3 := r2.putK (i := 3) hk (by omega) (v := .int .i64 t) ⟨q, d, p, t, (S.regs k).met, (S.regs k).ways, (S.regs k).weight⟩ (by rw [regs_set]; exact seven rfl rfl rfl rfl rfl rfl rfl) (by rw [regs_set])
  rw [setR_up] at r3
  have r4 := r3.putK (i := 4) hk (by omega) (v := .bool m) ⟨q, d, p, t, m, (S.regs k).ways, (S.regs k).weight⟩ (by rw [regs_set]; exact seven rfl rfl rfl rfl rfl rfl rfl) (by rw [regs_set])
  rw [setR_up] at r4
  have r5 := r4.putR (i := 5) hk (by omega) (v := .slice none 0 0) ⟨q, d, p, t, m, [], (S.regs k).weight⟩ (.slice none 0 0) (by rw [regs_set]; exact seven rfl rfl rfl rfl rfl rfl rfl) (own_nil _ _ _) (fun _ _ _ => .inl rfl)
  rw [setR_up] at r5
  have r6 := r5.putK (i := 6) hk (by omega) (v := .int .i64 g) ⟨q, d, p, t, m, [], g⟩ (by rw [regs_set, upV_same]; exact seven rfl rfl rfl rfl rfl rfl rfl) (by rw [regs_set])
  rw [setR_up] at r6
  exact r6
theorem Lk.below7 (h : Lk w0 w b c s S wv) (i0 i1 i2 i3 i4 i5 i6 : Nat) (v0 v1 v2 v3 v4 v5 v6 : Value) :
    Below b w (((((((w.setCell ⟨b, i0, none⟩ v0).setCell ⟨b, i1, none⟩ v1).setCell ⟨b, i2, none⟩ v2).setCell ⟨b, i3, none⟩ v3).setCell ⟨b, i4, none⟩ v4).setCell ⟨b, i5, none⟩ v5).setCell ⟨b, i6, none⟩ v6) :=
  ((((((h.below_put i0 v0).setCell (p := ⟨b, i1, none⟩) (Nat.le_refl b) v1).setCell (p := ⟨b, i2, none⟩) (Nat.le_refl b) v2).setCell (p := ⟨b, i3, none⟩) (Nat.le_refl b) v3).setCell (p := ⟨b, i4, none⟩) (Nat.le_refl b) v4).setCell (p := ⟨b, i5, none⟩) (Nat.le_refl b) v5).setCell (p := ⟨b, i6, none⟩) (Nat.le_refl b) v6
/-- A plane is kept. -/
theorem Lk.keep (h : Lk w0 w b c s S wv) {k : Nat} (hk : k < 10) (q : Bool) (g : Int) :
    Lk w0 ((w.setCell ⟨b, 122 + k * 2, none⟩ (.bool q)).setCell ⟨b, 122 + k * 2 + 1, none⟩ (.int .i64 g)) b c s (setP S k (q, g)) wv := by
  have r0 := h.put (S' := setP S k (q, (S.pl k).2)) (i := 122 + k * 2) (v := .bool q) (fun j hj => ?_) (fun r => rfl)
  · refine r0.put (fun j hj => ?_) (fun r => rfl)
    by_cases e : j = 122 + k * 2 + 1
    · subst e; rw [if_pos rfl, lk_pl1 _ _ _ _ k hk]; show _ = Value.int .i64 (updP S.pl k (q, g) k).2; rw [updP_same]
    · rw [if_neg e]; unfold lkF
      split
      · rfl
      split
      · rfl
      split
      · show (if (j - 122) % 2 = 0 then Value.bool (updP S.pl k (q, (S.pl k).2) ((j - 122) / 2)).1 else .int .i64 (updP S.pl k (q, (S.pl k).2) ((j - 122) / 2)).2) = (if (j - 122) % 2 = 0 then Value.bool (updP S.pl k (q, g) ((j - 122) / 2)).1 else .int .i64 (updP S.pl k (q, g) ((j - 122) / 2)).2)
        by_cases e2 : (j - 122) / 2 = k
        · rw [e2, updP_same, updP_same, if_pos (by omega), if_pos (by omega)]
        · rw [updP_ne _ _ e2, updP_ne _ _ e2]
      · rfl
  · by_cases e : j = 122 + k * 2
    · subst e; rw [if_pos rfl, lk_pl0 _ _ _ _ k hk]; show _ = Value.bool (updP S.pl k (q, (S.pl k).2) k).1; rw [updP_same]
    · rw [if_neg e]; unfold lkF
      split
      · rfl
      split
      · rfl
      split
      · show _ = (if (j - 122) % 2 = 0 then Value.bool (updP S.pl k (q, (S.pl k).2) ((j - 122) / 2)).1 else .int .i64 (updP S.pl k (q, (S.pl k).2) ((j - 122) / 2)).2)
        by_cases e2 : (j - 122) / 2 = k
        · rw [e2, updP_same, if_neg (by omega), if_neg (by omega)]
        · rw [updP_ne _ _ e2]
      · rfl
end
end Go.Proofs.YtnkfibahkmmnpaaGreat
