/-
  The document's look in memory: a box, a row of registers, rows of planes.
-/
import Derived.Test.YtnkfibahkmmnpaaGreatVrM
import Derived.Test.YtnkfibahkmmnpaaGreatKab
import Derived.Test.YtnkfibahkmmnpaaGreatKac
namespace Go.Proofs.YtnkfibahkmmnpaaGreat
open Go.RowKit

def rdCell (r : Rg) (v : Value) (i : Nat) : Value :=
  if i = 0 then .bool r.wr else if i = 1 then .bool (r.wr && !r.met) else if i = 2 then .int .i64 r.kind else if i = 3 then .int .i64 r.plane else if i = 4 then .int .i64 r.step else if i = 5 then v else .int .i64 r.weight
def rgC (S : St) (wv : Nat → Value) (R : Nat) : Array Value := Array.ofFn (n := R * 7) fun i => rdCell (S.regs (i.val / 7)) (wv (i.val / 7)) (i.val % 7)
def kpC (S : St) (P : Nat) : Array Value := Array.ofFn (n := P) fun i => .bool (S.pl i.val).1
def wgC (S : St) (P : Nat) : Array Value := Array.ofFn (n := P) fun i => .int .i64 (S.pl i.val).2
def dlCells (c : Cd) (s : Ls) (t : Int) (gr gk gw R P : Nat) : Array Value :=
  #[.int .i64 c.letters, .int .i64 c.planes, .int .i64 c.regs, .int .i64 c.lo, .int .i64 c.hi, .int .i64 c.most, .slice s.t.a s.t.n s.t.c, .slice s.k.a s.k.n s.k.c, .slice s.i.a s.i.n s.i.c, .slice s.r.a s.r.n s.r.c, .slice (some ⟨gr, 0, none⟩) R R, .slice (some ⟨gk, 0, none⟩) P P, .slice (some ⟨gw, 0, none⟩) P P, .int .i64 (max t 1)]
theorem rgC_get (S : St) (wv : Nat → Value) (R : Nat) {k i : Nat} (hk : k < R) (hi : i < 7) : (rgC S wv R)[k * 7 + i]? = some (rdCell (S.regs k) (wv k) i) := by
  have h1 : (k * 7 + i) / 7 = k := by omega
  have h2 : (k * 7 + i) % 7 = i := by omega
  have h3 : k * 7 + i < R * 7 := by omega
  simp [rgC, h1, h2, h3]
theorem rgC_set {S : St} {wv : Nat → Value} {R k i : Nat} {v : Value} (hi : i < 7) (x : Rg) (u : Value) (hF : ∀ j, j < 7 → (if j = i then v else rdCell (S.regs k) (wv k) j) = rdCell x u j) :
    (rgC S wv R).setIfInBounds (k * 7 + i) v = rgC (setR S k x) (upV wv k u) R := by
  apply Array.ext_getElem?
  intro j
  rw [Array.getElem?_setIfInBounds]
  by_cases hj : j < R * 7
  · have e1 : (rgC S wv R)[j]? = some (rdCell (S.regs (j / 7)) (wv (j / 7)) (j % 7)) := by simp [rgC, hj]
    have e2 : (rgC (setR S k x) (upV wv k u) R)[j]? = some (rdCell (updR S.regs k x (j / 7)) (upV wv k u (j / 7)) (j % 7)) := by simp [rgC, hj, setR]
    have hs : (rgC S wv R).size = R * 7 := by simp [rgC]
    rw [e1, e2, hs]
    by_cases ek : j / 7 = k
    · have := hF (j % 7) (by omega)
      rw [ek, updR_same, upV_same, ← this]
      by_cases e : k * 7 + i = j
      · rw [if_pos e, if_pos (by omega), if_pos (by omega)]
      · rw [if_neg e, if_neg (by omega)]
    · rw [updR_ne _ _ ek, upV_ne _ _ ek, if_neg (by omega)]
  · have hs : (rgC S wv R).size = R * 7 := by simp [rgC]
    have hs2 : (rgC (setR S k x) (upV wv k u) R).size = R * 7 := by simp [rgC]
    rw [Array.getElem?_eq_none (by omega), Array.getElem?_eq_none (by omega)]
    simp [hs]
    omega
theorem kpC_get (S : St) (P : Nat) {k : Nat} (hk : k < P) : (kpC S P)[k]? = some (.bool (S.pl k).1) := by simp [kpC, hk]
theorem wgC_get (S : St) (P : Nat) {k : Nat} (hk : k < P) : (wgC S P)[k]? = some (.int .i64 (S.pl k).2) := by simp [wgC, hk]
theorem kpC_set (S : St) (P k : Nat) (q : Bool) (g : Int) : (kpC S P).setIfInBounds k (.bool q) = kpC (setP S k (q, g)) P := by
  apply Array.ext_getElem?
  intro j
  rw [Array.getElem?_setIfInBounds]
  have hs : (kpC S P).size = P := by simp [kpC]
  by_cases hj : j < P
  · rw [kpC_get _ _ hj, kpC_get _ _ hj, hs]
    show _ = some (Value.bool (updP S.pl k (q, g) j).1)
    by_cases e : k = j
    · subst e; rw [if_pos rfl, if_pos hj, updP_same]
    · rw [if_neg e, updP_ne _ _ (Ne.symm e)]
  · rw [Array.getElem?_eq_none (by omega), Array.getElem?_eq_none (by simp [kpC]; omega)]
    simp [hs]; omega
theorem wgC_set (S : St) (P k : Nat) (q : Bool) (g : Int) : (wgC S P).setIfInBounds k (.int .i64 g) = wgC (setP S k (q, g)) P := by
  apply Array.ext_getElem?
  intro j
  rw [Array.getElem?_setIfInBounds]
  have hs : (wgC S P).size = P := by simp [wgC]
  by_cases hj : j < P
  · rw [wgC_get _ _ hj, wgC_get _ _ hj, hs]
    show _ = some (Value.int .i64 (updP S.pl k (q, g) j).2)
    by_cases e : k = j
    · subst e; rw [if_pos rfl, if_pos hj, updP_same]
    · rw [if_neg e, updP_ne _ _ (Ne.symm e)]
  · rw [Array.getElem?_eq_none (by omega), Array.getElem?_eq_none (by simp [wgC]; omega)]
    simp [hs]; omega
theorem kp_same (S S' : St) (P : Nat) (h : ∀ p, (S'.pl p).1 = (S.pl p).1) : kpC S' P = kpC S P := by unfold kpC; congr 1; funext i; rw [h]
theorem wg_same (S S' : St) (P : Nat) (h : ∀ p, (S'.pl p).2 = (S.pl p).2) : wgC S' P = wgC S P := by unfold wgC; congr 1; funext i; rw [h]

theorem up_snd (S : St) (k : Nat) (q : Bool) (p : Nat) : ((setP S k (q, (S.pl k).2)).pl p).2 = (S.pl p).2 := by
  show (updP S.pl k (q, (S.pl k).2) p).2 = _
  by_cases e : p = k
  · subst e; rw [updP_same]
  · rw [updP_ne _ _ e]
theorem up_fst (S : St) (k : Nat) (g : Int) (p : Nat) : ((setP S k ((S.pl k).1, g)).pl p).1 = (S.pl p).1 := by
  show (updP S.pl k ((S.pl k).1, g) p).1 = _
  by_cases e : p = k
  · subst e; rw [updP_same]
  · rw [updP_ne _ _ e]
/-- The look's box at b, its rows; the code's lists lie below w0's end, and stay. -/
structure Dl (w0 w : World) (b : Nat) (c : Cd) (s : Ls) (S : St) (wv : Nat → Value) (gr gk gw R P : Nat) : Prop where
  box : w.heap[b]? = some (.cells (dlCells c s S.top gr gk gw R P) 99 (0, 0))
  regs : w.heap[gr]? = some (.cells (rgC S wv R) 142 (0, 0))
  kept : w.heap[gk]? = some (.cells (kpC S P) 4 (0, 0))
  wgt : w.heap[gw]? = some (.cells (wgC S P) 3 (0, 0))
  cd : CdAt w0 c s
  low : Below w0.heap.size w0 w
  le : w0.heap.size ≤ b ∧ w0.heap.size ≤ gr ∧ w0.heap.size ≤ gk ∧ w0.heap.size ≤ gw
  rows : ∀ r, r < R → w.ownsRow w0.heap.size 162 4 (wv r) (S.regs r).ways.length (qdVals (S.regs r).ways)
  apart : ∀ r r', r < R → r' < R → r ≠ r' → (wv r).ownBlock = none ∨ (wv r).ownBlock ≠ (wv r').ownBlock
section
variable {w0 w : World} {b : Nat} {c : Cd} {s : Ls} {S : St} {wv : Nat → Value} {gr gk gw R P : Nat}
theorem Dl.next {w' : World} (h : Dl w0 w b c s S wv gr gk gw R P) (hb : Below w.heap.size w w') : Dl w0 w' b c s S wv gr gk gw R P :=
  ⟨row_next h.box hb, row_next h.regs hb, row_next h.kept hb, row_next h.wgt hb, h.cd, h.low.trans (hb.mono h.low.size), h.le, fun r hr => owned_below (h.rows r hr) hb, h.apart⟩
theorem Dl.cell (h : Dl w0 w b c s S wv gr gk gw R P) (i : Nat) {v : Value} (hv : (dlCells c s S.top gr gk gw R P)[i]? = some v) : w.cell? ⟨b, i, none⟩ = some v := cell_block h.box i v hv
theorem Dl.reg (h : Dl w0 w b c s S wv gr gk gw R P) (k i : Nat) (hk : k < R) (hi : i < 7) {v : Value} (hv : rdCell (S.regs k) (wv k) i = v) : w.cell? ⟨gr, k * 7 + i, none⟩ = some v := by
  rw [cell_block h.regs _ _ (rgC_get S wv R hk hi), hv]
theorem Dl.rfz (h : Dl w0 w b c s S wv gr gk gw R P) (i : Nat) : w.frozen? ⟨gr, i, none⟩ = false := frozen_of_row w _ i _ _ h.regs
theorem Dl.kp (h : Dl w0 w b c s S wv gr gk gw R P) (k : Nat) (hk : k < P) : w.cell? ⟨gk, k, none⟩ = some (.bool (S.pl k).1) := cell_block h.kept _ _ (kpC_get S P hk)
theorem Dl.wg (h : Dl w0 w b c s S wv gr gk gw R P) (k : Nat) (hk : k < P) : w.cell? ⟨gw, k, none⟩ = some (.int .i64 (S.pl k).2) := cell_block h.wgt _ _ (wgC_get S P hk)
theorem Dl.at' (h : Dl w0 w b c s S wv gr gk gw R P) : CdAt w c s := h.cd.below h.low
theorem Dl.putR (h : Dl w0 w b c s S wv gr gk gw R P) {k i : Nat} (hi : i < 7) {v : Value} (x : Rg) (u : Value) (hF : ∀ j, j < 7 → (if j = i then v else rdCell (S.regs k) (wv k) j) = rdCell x u j)
    (hrow : w.ownsRow w0.heap.size 162 4 u x.ways.length (qdVals x.ways)) (hap : ∀ r, r < R → r ≠ k → u.ownBlock = none ∨ u.ownBlock ≠ (wv r).ownBlock) : Dl w0 (w.setCell ⟨gr, k * 7 + i, none⟩ v) b c s (setR S k x) (upV wv k u) gr gk gw R P := by
  refine ⟨?_, ?_, ?_, ?_, h.cd, h.low.setCell (p := ⟨gr, k * 7 + i, none⟩) h.le.2.1 v, h.le, fun r hr => ?_, fun r r' hr hr' hne => ?_⟩
  · rw [heap_setOther _ h.regs h.box (by decide)]; exact h.box
  · rw [heap_setCell_same _ _ _ _ _ _ h.regs, rgC_set hi x u hF]
  · rw [heap_setOther _ h.regs h.kept (by decide)]; exact h.kept
  · rw [heap_setOther _ h.regs h.wgt (by decide)]; exact h.wgt
  · show World.ownsRow _ _ _ _ (upV wv k u r) (updR S.regs k x r).ways.length (qdVals (updR S.regs k x r).ways)
    by_cases e : r = k
    · subst e; rw [updR_same, upV_same]; exact owned_setOther hrow h.regs (by decide) v
    · rw [updR_ne _ _ e, upV_ne _ _ e]; exact owned_setOther (h.rows r hr) h.regs (by decide) v
  · by_cases e : r = k
    · subst e
      rw [upV_same, upV_ne _ _ (Ne.symm hne)]
      exact hap r' hr' (Ne.symm hne)
    · rw [upV_ne _ _ e]
      by_cases e2 : r' = k
      · subst e2
        rw [upV_same]
        rcases hap r hr e with h0 | h0
        · by_cases h1 : (wv r).ownBlock = none
          · exact .inl h1
          · exact .inr (by rw [h0]; exact h1)
        · exact .inr (Ne.symm h0)
      · rw [upV_ne _ _ e2]; exact h.apart r r' hr hr' hne
theorem Dl.putK (h : Dl w0 w b c s S wv gr gk gw R P) {k i : Nat} (hk : k < R) (hi : i < 7) {v : Value} (x : Rg) (hF : ∀ j, j < 7 → (if j = i then v else rdCell (S.regs k) (wv k) j) = rdCell x (wv k) j)
    (hw : x.ways = (S.regs k).ways) : Dl w0 (w.setCell ⟨gr, k * 7 + i, none⟩ v) b c s (setR S k x) wv gr gk gw R P := by
  have := h.putR hi x (wv k) hF (by rw [hw]; exact h.rows k hk) (fun r hr hne => h.apart k r hk hr (Ne.symm hne))
  rwa [upV_self] at this
theorem Dl.keep1 (h : Dl w0 w b c s S wv gr gk gw R P) (k : Nat) (q : Bool) : Dl w0 (w.setCell ⟨gk, k, none⟩ (.bool q)) b c s (setP S k (q, (S.pl k).2)) wv gr gk gw R P :=
  ⟨by rw [heap_setOther _ h.kept h.box (by decide)]; exact h.box, by rw [heap_setOther _ h.kept h.regs (by decide)]; exact h.regs, by rw [heap_setCell_same _ _ _ _ _ _ h.kept, kpC_set], by
    rw [heap_setOther _ h.kept h.wgt (by decide), h.wgt, wg_same S (setP S k (q, (S.pl k).2)) P (up_snd S k q)],
    h.cd, h.low.setCell (p := ⟨gk, k, none⟩) h.le.2.2.1 _, h.le, fun r hr => owned_setOther (h.rows r hr) h.kept (by decide) _, h.apart⟩
theorem Dl.keep2 (h : Dl w0 w b c s S wv gr gk gw R P) (k : Nat) (g : Int) : Dl w0 (w.setCell ⟨gw, k, none⟩ (.int .i64 g)) b c s (setP S k ((S.pl k).1, g)) wv gr gk gw R P :=
  ⟨by rw [heap_setOther _ h.wgt h.box (by decide)]; exact h.box, by rw [heap_setOther _ h.wgt h.regs (by decide)]; exact h.regs, by
    rw [heap_setOther _ h.wgt h.kept (by decide), h.kept, kp_same S (setP S k ((S.pl k).1, g)) P (up_fst S k g)],
    by rw [heap_setCell_same _ _ _ _ _ _ h.wgt, wgC_set S P k (S.pl k).1 g],
    h.cd, h.low.setCell (p := ⟨gw, k, none⟩) h.le.2.2.2 _, h.le, fun r hr => owned_setOther (h.rows r hr) h.wgt (by decide) _, h.apart⟩
theorem Dl.heavy (h : Dl w0 w b c s S wv gr gk gw R P) (n : Int) {z : Int} (hz : z = max (max S.top n) 1) : Dl w0 (w.setCell ⟨b, 13, none⟩ (.int .i64 z)) b c s (weighP S n) wv gr gk gw R P := by
  subst hz
  exact ⟨by rw [heap_setCell_same _ _ _ _ _ _ h.box]; rfl, by rw [heap_setOther _ h.box h.regs (by decide)]; exact h.regs, by rw [heap_setOther _ h.box h.kept (by decide)]; exact h.kept, by rw [heap_setOther _ h.box h.wgt (by decide)]; exact h.wgt,
    h.cd, h.low.setCell (p := ⟨b, 13, none⟩) h.le.1 _, h.le, fun r hr => owned_setOther (h.rows r hr) h.box (by decide) _, h.apart⟩
/-- A weight that is no greater changes nothing. -/
theorem Dl.light (h : Dl w0 w b c s S wv gr gk gw R P) (n : Int) (hn : n ≤ max S.top 1) : Dl w0 w b c s (weighP S n) wv gr gk gw R P :=
  ⟨by rw [h.box]; show some (Obj.cells (dlCells c s S.top gr gk gw R P) 99 (0, 0)) = some (.cells (dlCells c s (max S.top n) gr gk gw R P) 99 (0, 0)); unfold dlCells; rw [show max (max S.top n) 1 = max S.top 1 by omega], h.regs, h.kept, h.wgt, h.cd, h.low, h.le, h.rows, h.apart⟩
end
end Go.Proofs.YtnkfibahkmmnpaaGreat
