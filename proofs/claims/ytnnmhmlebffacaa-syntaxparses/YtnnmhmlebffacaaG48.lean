/-
  A tree that is turned: lists of expressions of so many levels, in blocks that may be written. All that a tree has is turned: spoilExpr.
-/
import Derived.Test.YtnnmhmlebffacaaG13
namespace Go.Proofs.Ytnnmhmlebffacaa
open Go.RowKit Go.Deep

/-- A list of expressions of at most so many levels. -/
def FoB (S : Nat → Prop) : Nat → World → Option Addr → Nat → Prop
  | 0, _, _, n => n = 0
  | d + 1, w, ao, n => ∀ i, i < n → ∃ g off h ka kn kc, ao = some ⟨g, off, none⟩ ∧ S g ∧ off % 5 = 0 ∧ (∃ cs, w.heap[g]? = some (.cells cs 35 (0, 0))) ∧ kn ≤ maxLen ∧ CellsAt w g (off + i * 5) (exCells h ka kn kc) ∧ FoB S d w ka kn
theorem foB_none (S : Nat → Prop) (d : Nat) (w : World) (ao : Option Addr) : FoB S d w ao 0 := by
  cases d with
  | zero => rfl
  | succ d => intro i hi; omega
theorem foB_of {S : Nat → Prop} {w : World} : ∀ (F : Fo) (d : Nat) (ao : Option Addr) (n : Nat), depF F ≤ d → FoAt true S w F ao n → FoB S d w ao n
  | .nil, d, ao, n, _, h => by
    have h0 : n = 0 := h
    subst h0
    exact foB_none _ _ _ _
  | .node _ _ h k r, 0, ao, n, hd, hh => by
    have : max (depF k + 1) (depF r) ≤ 0 := hd
    omega
  | .node _ _ h k r, d + 1, ao, n, hd, hh => by
    have hd' : max (depF k + 1) (depF r) ≤ d + 1 := hd
    obtain ⟨g, off, ka, kn, kc, m, hn, ha, hB, ho, hok, hkn, hc, hk1, hr⟩ := hh
    have h1 := foB_of k d ka kn (by omega) hk1
    have h2 := foB_of r (d + 1) (some ⟨g, off + 5, none⟩) m (by omega) hr
    intro i hi
    cases i with
    | zero => exact ⟨g, off, h, ka, kn, kc, ha, hB, (ho rfl).1, (ho rfl).2, hkn, by rw [Nat.zero_mul, Nat.add_zero]; exact hc, h1⟩
    | succ i =>
      obtain ⟨g2, off2, h', ka', kn', kc', e, q1, q2, q3, q4, q5, q6⟩ := h2 i (by omega)
      cases e
      refine ⟨g, off, h', ka', kn', kc', ha, q1, by omega, q3, q4, ?_, q6⟩
      rw [show off + (i + 1) * 5 = off + 5 + i * 5 by omega]; exact q5
theorem foB_keep {S : Nat → Prop} {w w' : World} (hk : ∀ g, g < w.heap.size → S g → w'.heap[g]? = w.heap[g]?) : ∀ (d : Nat) (ao : Option Addr) (n : Nat), FoB S d w ao n → FoB S d w' ao n
  | 0, _, _, h => h
  | d + 1, ao, n, h => fun i hi => by
    obtain ⟨g, off, h', ka, kn, kc, e, q1, q2, ⟨cs, q3⟩, q4, q5, q6⟩ := h i hi
    have he := hk g (lt_block q3) q1
    exact ⟨g, off, h', ka, kn, kc, e, q1, q2, ⟨cs, by rw [he]; exact q3⟩, q4, q5.of_heap he, foB_keep hk d ka kn q6⟩
def leafH : Hd := ⟨-7, 0, [], 0⟩
/-- One expression has become a leaf. -/
structure Lf (g p : Nat) (w w' : World) : Prop where
  other : ∀ x, x ≠ g → w'.heap[x]? = w.heap[x]?
  typed : ∀ cs, w.heap[g]? = some (.cells cs 35 (0, 0)) → ∃ cs', w'.heap[g]? = some (.cells cs' 35 (0, 0)) ∧ ∀ q, (q < p ∨ p + 5 ≤ q) → cs'[q]? = cs[q]?
  leaf : CellsAt w' g p (exCells leafH none 0 0)
theorem foB_leaf {S : Nat → Prop} {g p : Nat} {w w' : World} (hp : p % 5 = 0) (hl : Lf g p w w') : ∀ (d : Nat) (ao : Option Addr) (n : Nat), FoB S d w ao n → FoB S d w' ao n
  | 0, _, _, h => h
  | d + 1, ao, n, h => fun i hi => by
    obtain ⟨g1, off, h', ka, kn, kc, e, q1, q2, ⟨cs, q3⟩, q4, q5, q6⟩ := h i hi
    by_cases hg : g1 = g
    · subst hg
      obtain ⟨cs', r1, r2⟩ := hl.typed cs q3
      by_cases hpp : off + i * 5 = p
      · exact ⟨g1, off, leafH, none, 0, 0, e, q1, q2, ⟨cs', r1⟩, Nat.zero_le _, by rw [hpp]; exact hl.leaf, foB_none _ _ _ _⟩
      · refine ⟨g1, off, h', ka, kn, kc, e, q1, q2, ⟨cs', r1⟩, q4, fun j u hj => ?_, foB_leaf hp hl d ka kn q6⟩
        have hj5 : j < 5 := (List.getElem?_eq_some_iff.1 hj).1
        have h1 := q5 j u hj
        rw [cell_of_row w g1 _ cs 35 (0, 0) q3] at h1
        rw [cell_of_row w' g1 _ cs' 35 (0, 0) r1, r2 _ (by omega)]
        exact h1
    · have he := hl.other g1 hg
      exact ⟨g1, off, h', ka, kn, kc, e, q1, q2, ⟨cs, by rw [he]; exact q3⟩, q4, q5.of_heap he, foB_leaf hp hl d ka kn q6⟩
/-- What turning leaves: blocks of a set alone are changed, those of expressions alone; lists have no more levels. -/
structure Sp (S : Nat → Prop) (w w' : World) : Prop where
  os : w'.os = w.os
  tape : w'.tape = w.tape
  output : w'.output = w.output
  size : w.heap.size ≤ w'.heap.size
  block : ∀ g, g < w.heap.size → ¬ S g → w'.heap[g]? = w.heap[g]?
  other : ∀ (g : Nat) (cs : Array Value) (ty : TypeId) (f : Nat × Nat), w.heap[g]? = some (Obj.cells cs ty f) → ty ≠ 35 → w'.heap[g]? = some (Obj.cells cs ty f)
  fob : ∀ d ao n, FoB S d w ao n → FoB S d w' ao n
theorem Sp.refl (S : Nat → Prop) (w : World) : Sp S w w := ⟨rfl, rfl, rfl, Nat.le_refl _, fun _ _ _ => rfl, fun _ _ _ _ h _ => h, fun _ _ _ h => h⟩
theorem Sp.trans {S : Nat → Prop} {w w1 w2 : World} (h : Sp S w w1) (k : Sp S w1 w2) : Sp S w w2 :=
  ⟨k.os.trans h.os, k.tape.trans h.tape, k.output.trans h.output, Nat.le_trans h.size k.size, fun g hg hn => (k.block g (Nat.lt_of_lt_of_le hg h.size) hn).trans (h.block g hg hn), fun g cs ty f hg ht => k.other g cs ty f (h.other g cs ty f hg ht) ht, fun d ao n hf => k.fob d ao n (h.fob d ao n hf)⟩
theorem Sp.of_below {S : Nat → Prop} {w w' : World} (h : Below w.heap.size w w') : Sp S w w' :=
  ⟨h.os, h.tape, h.output, h.size, fun g hg _ => h.block g hg, fun g cs ty f hg _ => by rw [h.block g (lt_block hg)]; exact hg, fun d ao n hf => foB_keep (fun g hg _ => h.block g hg) d ao n hf⟩
theorem Sp.then_below {S : Nat → Prop} {w w1 w2 : World} (h : Sp S w w1) (k : Below w1.heap.size w1 w2) : Sp S w w2 := h.trans (Sp.of_below k)
/-- Five cells of a block of expressions are set. -/
theorem leaf_set {S : Nat → Prop} {w w' : World} {g p : Nat} {cs : Array Value} (hS : S g) (hp : p % 5 = 0) (hg : w.heap[g]? = some (.cells cs 35 (0, 0))) (hsz : p + 5 ≤ cs.size)
    (hW : w' = ((((w.setCell ⟨g, p, none⟩ (.int .i64 (-7))).setCell ⟨g, p + 1, none⟩ (.int .i64 0)).setCell ⟨g, p + 2, none⟩ (.string ⟨#[]⟩)).setCell ⟨g, p + 3, none⟩ (.slice none 0 0)).setCell ⟨g, p + 4, none⟩ (.int .i64 0)) : Sp S w w' := by
  have v1 := heap_put (i := p) (u := .int .i64 (-7)) hg rfl
  have v2 := heap_put (i := p + 1) (u := .int .i64 0) v1 rfl
  have v3 := heap_put (i := p + 2) (u := .string ⟨#[]⟩) v2 rfl
  have v4 := heap_put (i := p + 3) (u := .slice none 0 0) v3 rfl
  have v5 := heap_put (i := p + 4) (u := .int .i64 0) v4 rfl
  rw [← hW] at v5
  have hoth : ∀ x, x ≠ g → w'.heap[x]? = w.heap[x]? := fun x hx => by
    rw [hW]; exact heap_other (heap_other (heap_other (heap_other (heap_other rfl hx) hx) hx) hx) hx
  have hlf : Lf g p w w' := by
    refine ⟨hoth, fun cs2 h2 => ⟨_, v5, fun q hq => ?_⟩, fun i u hi => ?_⟩
    · rw [hg] at h2
      cases h2
      simp only [Array.getElem?_setIfInBounds]
      rw [if_neg (by omega), if_neg (by omega), if_neg (by omega), if_neg (by omega), if_neg (by omega)]
    · rw [cell_of_row w' g _ _ 35 (0, 0) v5]
      have hi5 : i < 5 := (List.getElem?_eq_some_iff.1 hi).1
      simp only [Array.getElem?_setIfInBounds, Array.size_setIfInBounds]
      have : i = 0 ∨ i = 1 ∨ i = 2 ∨ i = 3 ∨ i = 4 := by omega
      rcases this with rfl | rfl | rfl | rfl | rfl
      · rw [if_neg (by omega), if_neg (by omega), if_neg (by omega), if_neg (by omega), if_pos (by omega), if_pos (by omega)]; exact hi
      · rw [if_neg (by omega), if_neg (by omega), if_neg (by omega), if_pos (by omega), if_pos (by omega)]; exact hi
      · rw [if_neg (by omega), if_neg (by omega), if_pos (by omega), if_pos (by omega)]; exact hi
      · rw [if_neg (by omega), if_pos (by omega), if_pos (by omega)]; exact hi
      · rw [if_pos (by omega), if_pos (by omega)]; exact hi
  have hK : Kp g w w' := by
    rw [hW]
    exact (((((Kp.refl g w).setCell p _).setCell (p + 1) _).setCell (p + 2) _).setCell (p + 3) _).setCell (p + 4) _
  refine ⟨hK.os, hK.tape, hK.output, hK.size, fun x _ hn => hoth x (fun e => hn (e ▸ hS)), fun x c2 ty f hx ht => ?_, fun d ao n hf => foB_leaf hp hlf d ao n hf⟩
  rw [hoth x (fun e => by rw [e, hg] at hx; cases hx; exact ht rfl)]; exact hx
/-- Cells that can be read lie within their block. -/
theorem cells_in {w : World} {g p : Nat} {cs : Array Value} {l : List Value} (hg : w.heap[g]? = some (.cells cs 35 (0, 0))) (hc : CellsAt w g p l) (hl : 0 < l.length) : p + l.length ≤ cs.size := by
  have h1 := hc (l.length - 1) (l[l.length - 1]'(by omega)) (List.getElem?_eq_getElem (by omega))
  rw [cell_of_row w g _ cs 35 (0, 0) hg] at h1
  have := (Array.getElem?_eq_some_iff.1 h1).1
  omega
end Go.Proofs.Ytnnmhmlebffacaa
namespace Go.Proofs.Ytnnmhmlebffacaa
open Go.RowKit Go.Deep

/-- One expression of a list: it can be read and written, and turned. -/
def EL (S : Nat → Prop) (ka : Option Addr) (wr : World) (i : Nat) : Prop :=
  ∃ g off h ka' kn' kc', ka = some ⟨g, off, none⟩ ∧ S g ∧ off % 5 = 0 ∧ (∃ cs, wr.heap[g]? = some (.cells cs 35 (0, 0))) ∧ CellsAt wr g (off + i * 5) (exCells h ka' kn' kc') ∧
    Calls Try.prog 30 #[.agg #[.int .i64 h.kind, .int .i64 h.num, .string (bs h.text), .slice ka' kn' kc', .int .i64 h.pl]] wr fun e' w' => e' = .returned (.tuple #[]) ∧ Sp S wr w'
set_option maxRecDepth 20000 in
set_option maxHeartbeats 2000000 in
theorem spoilE_step (S : Nat → Prop) (hd : Hd) (ka : Option Addr) (kn kc : Nat) (w : World) (hkm : kn ≤ maxLen) (hS : ∀ g, S g → g < w.heap.size) (H : ∀ wr, Sp S w wr → ∀ i, i < kn → EL S ka wr i) :
    Calls Try.prog 30 #[.agg #[.int .i64 hd.kind, .int .i64 hd.num, .string (bs hd.text), .slice ka kn kc, .int .i64 hd.pl]] w fun e' w' => e' = .returned (.tuple #[]) ∧ Sp S w w' := by
  unfold maxLen at hkm
  have HH : Hid (∀ wr, Sp S w wr → ∀ i, i < kn → EL S ka wr i) := H
  have HS : Hid (∀ g, S g → g < w.heap.size) := hS
  have hbx : Below w.heap.size w (w.alloc (.cells #[.int .i64 hd.kind, .int .i64 hd.num, .string (bs hd.text), .slice ka kn kc, .int .i64 hd.pl] 35)) := (Below.refl _ _).alloc (Nat.le_refl _) _
  have HB : Hid (Sp S w (w.alloc (.cells #[.int .i64 hd.kind, .int .i64 hd.num, .string (bs hd.text), .slice ka kn kc, .int .i64 hd.pl] 35)) ∧ (w.alloc (.cells #[.int .i64 hd.kind, .int .i64 hd.num, .string (bs hd.text), .slice ka kn kc, .int .i64 hd.pl] 35)).heap[w.heap.size]? = some (.cells #[.int .i64 hd.kind, .int .i64 hd.num, .string (bs hd.text), .slice ka kn kc, .int .i64 hd.pl] 35 (0, 0))) := ⟨Sp.of_below hbx, heap_alloc_new w _⟩
  clear hbx H hS
  go_enter Try.func30, Try.ntmps30
  go_wp2_with fail
  go_loopg [2] kn (fun k iv wr => ∃ (i : Nat), iv = .int .i64 (i : Int) ∧ i + k = kn ∧ Hid (Sp S w wr ∧ wr.heap[w.heap.size]? = some (.cells #[.int .i64 hd.kind, .int .i64 hd.num, .string (bs hd.text), .slice ka kn kc, .int .i64 hd.pl] 35 (0, 0))))
  case atStart => exact ⟨0, rfl, by omega, HB.out⟩
  case round =>
    clear HB
    obtain ⟨i, rfl, hik, HT⟩ := hrel
    have bx := blk (i := 3) HT.out.2 rfl
    by_cases hi : i < kn
    · have hdi : decide ((i : Int) < (kn : Int)) = true := by simp; omega
      obtain ⟨g, off, h2, k2, n2, c2, hka2, hSg, h5, -, hcl, hcall⟩ := HH.out wr HT.out.1 i hi
      subst hka2
      have c0 : wr.cell? ⟨g, off + i * 5, none⟩ = _ := hcl 0 _ rfl
      have c1 : wr.cell? ⟨g, off + i * 5 + 1, none⟩ = _ := hcl 1 _ rfl
      have c2' : wr.cell? ⟨g, off + i * 5 + 2, none⟩ = _ := hcl 2 _ rfl
      have c3 : wr.cell? ⟨g, off + i * 5 + 3, none⟩ = _ := hcl 3 _ rfl
      have c4 : wr.cell? ⟨g, off + i * 5 + 4, none⟩ = _ := hcl 4 _ rfl
      have HC : Hid (Calls Try.prog 30 #[.agg #[.int .i64 h2.kind, .int .i64 h2.num, .string (bs h2.text), .slice k2 n2 c2, .int .i64 h2.pl]] wr fun e' w' => e' = .returned (.tuple #[]) ∧ Sp S wr w') := hcall
      clear hcl hcall hSg h5
      go_wp2_with fail
      refine HC.out.mono ?_
      rintro e' w3 ⟨rfl, hb3⟩
      have h3 : Sp S w w3 := HT.out.1.trans hb3
      have hx3 : w3.heap[w.heap.size]? = some (.cells #[.int .i64 hd.kind, .int .i64 hd.num, .string (bs hd.text), .slice (some ⟨g, off, none⟩) kn kc, .int .i64 hd.pl] 35 (0, 0)) := by
        rw [hb3.block _ (lt_block HT.out.2) (fun e => by have := HS.out _ e; omega)]; exact HT.out.2
      obtain ⟨g', off', h4, k4, n4, c4', hka4, hSg, h5, ⟨cs, hcs⟩, hcl, -⟩ := HH.out w3 h3 i hi
      cases hka4
      have d0 : w3.cell? ⟨g, off + i * 5, none⟩ = _ := hcl 0 _ rfl
      have d1 : w3.cell? ⟨g, off + i * 5 + 1, none⟩ = _ := hcl 1 _ rfl
      have d2 : w3.cell? ⟨g, off + i * 5 + 2, none⟩ = _ := hcl 2 _ rfl
      have d3 : w3.cell? ⟨g, off + i * 5 + 3, none⟩ = _ := hcl 3 _ rfl
      have d4 : w3.cell? ⟨g, off + i * 5 + 4, none⟩ = _ := hcl 4 _ rfl
      have f0 := blkf (off + i * 5) hcs
      have f1 := blkf (off + i * 5 + 1) hcs
      have f2 := blkf (off + i * 5 + 2) hcs
      have f3 := blkf (off + i * 5 + 3) hcs
      have f4 := blkf (off + i * 5 + 4) hcs
      have bx3 := blk (i := 3) hx3 rfl
      have HN : Hid (∀ w', w' = ((((w3.setCell ⟨g, off + i * 5, none⟩ (.int .i64 (-7))).setCell ⟨g, off + i * 5 + 1, none⟩ (.int .i64 0)).setCell ⟨g, off + i * 5 + 2, none⟩ (.string ⟨#[]⟩)).setCell ⟨g, off + i * 5 + 3, none⟩ (.slice none 0 0)).setCell ⟨g, off + i * 5 + 4, none⟩ (.int .i64 0) → Sp S w w' ∧ w'.heap[w.heap.size]? = some (.cells #[.int .i64 hd.kind, .int .i64 hd.num, .string (bs hd.text), .slice (some ⟨g, off, none⟩) kn kc, .int .i64 hd.pl] 35 (0, 0))) := fun w' hW => by
        have h9 := leaf_set (S := S) (p := off + i * 5) hSg (by omega) hcs (cells_in hcs hcl (by show 0 < 5; omega)) hW
        exact ⟨h3.trans h9, by rw [h9.block _ (lt_block hx3) (fun e => by have := HS.out _ e; omega)]; exact hx3⟩
      clear hb3 h3 hx3 hcl hcs HT HC c0 c1 c2' c3 c4 bx hSg h5
      go_wp2_with fail
      go_roundg (gk - 1)
      case measure => omega
      case rel => exact ⟨i + 1, by go_num, by omega, HN.out _ rfl⟩
    · have hdi : decide ((i : Int) < (kn : Int)) = false := by simp; omega
      have HX : Hid (Sp S w wr) := HT.out.1
      clear HT
      go_wp2
      go_end0
      exact ⟨rfl, HX.out⟩
theorem spoilE_calls (S : Nat → Prop) : ∀ (d : Nat) (h : Hd) (ka : Option Addr) (kn kc : Nat) (w : World), FoB S d w ka kn → kn ≤ maxLen → (∀ g, S g → g < w.heap.size) →
    Calls Try.prog 30 #[.agg #[.int .i64 h.kind, .int .i64 h.num, .string (bs h.text), .slice ka kn kc, .int .i64 h.pl]] w fun e' w' => e' = .returned (.tuple #[]) ∧ Sp S w w'
  | 0, h, ka, kn, kc, w, hF, hk, hS => by
    have h0 : kn = 0 := hF
    subst h0
    exact spoilE_step S h ka 0 kc w hk hS fun wr _ i hi => by omega
  | d + 1, h, ka, kn, kc, w, hF, hk, hS => by
    refine spoilE_step S h ka kn kc w hk hS fun wr hr i hi => ?_
    obtain ⟨g, off, h', ka', kn', kc', q0, q1, q2, q3, q4, q5, q6⟩ := hr.fob _ _ _ hF i hi
    exact ⟨g, off, h', ka', kn', kc', q0, q1, q2, q3, q5, spoilE_calls S d h' ka' kn' kc' wr q6 q4 fun x hx => Nat.lt_of_lt_of_le (hS x hx) hr.size⟩
theorem el_of {S : Nat → Prop} {d : Nat} {ka : Option Addr} {kn : Nat} {w wr : World} (hF : FoB S d w ka kn) (hS : ∀ g, S g → g < w.heap.size) (hr : Sp S w wr) (i : Nat) (hi : i < kn) : EL S ka wr i := by
  cases d with
  | zero => have h0 : kn = 0 := hF; omega
  | succ d =>
    obtain ⟨g, off, h', ka', kn', kc', q0, q1, q2, q3, q4, q5, q6⟩ := hr.fob _ _ _ hF i hi
    exact ⟨g, off, h', ka', kn', kc', q0, q1, q2, q3, q5, spoilE_calls S d h' ka' kn' kc' wr q6 q4 fun x hx => Nat.lt_of_lt_of_le (hS x hx) hr.size⟩
end Go.Proofs.Ytnnmhmlebffacaa
