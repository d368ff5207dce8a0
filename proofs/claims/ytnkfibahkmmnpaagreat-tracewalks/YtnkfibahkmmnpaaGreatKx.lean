/-
  The walk's box; a step back. And what follows.
-/
import Derived.Test.YtnkfibahkmmnpaaGreatKw
import Derived.Test.YtnkfibahkmmnpaaGreatKac
namespace Go.Proofs.YtnkfibahkmmnpaaGreat
open Go.RowKit

def wkCells (g : Nat) (sa : Sl) (i j : Int) (s : Nat → Bool) : Array Value := #[.pointer (some ⟨g, 0, none⟩), .slice sa.a sa.n sa.c, .int .i64 i, .int .i64 j, .bool (s 0), .bool (s 1), .bool (s 2), .bool (s 3), .bool (s 4), .bool (s 5), .bool (s 6), .bool (s 7), .bool (s 8), .bool (s 9)]
/-- The walk's box; all below it is as it was. -/
structure Wb (w0 w : World) (b g : Nat) (sa : Sl) (i j : Int) (s : Nat → Bool) : Prop where
  box : w.heap[b]? = some (.cells (wkCells g sa i j s) 73 (0, 0))
  low : Below w0.heap.size w0 w
  le : w0.heap.size ≤ b
section
variable {w0 w w2 : World} {b g : Nat} {sa : Sl} {i j : Int} {s : Nat → Bool}
theorem Wb.next (h : Wb w0 w b g sa i j s) (hb : Below w.heap.size w w2) : Wb w0 w2 b g sa i j s := ⟨by rw [hb.block _ (lt_block h.box)]; exact h.box, h.low.trans (hb.mono h.low.size), h.le⟩
theorem Wb.cell (h : Wb w0 w b g sa i j s) (k : Nat) (v : Value) (hv : (wkCells g sa i j s)[k]? = some v) : w.cell? ⟨b, k, none⟩ = some v := cell_block h.box k v hv
theorem Wb.fz (h : Wb w0 w b g sa i j s) (k : Nat) : w.frozen? ⟨b, k, none⟩ = false := frozen_of_row w _ k _ _ h.box
theorem Wb.putI (h : Wb w0 w b g sa i j s) (n : Int) : Wb w0 (w.setCell ⟨b, 2, none⟩ (.int .i64 n)) b g sa n j s := ⟨by rw [heap_setCell_same _ _ _ _ _ _ h.box]; rfl, h.low.setCell (p := ⟨b, 2, none⟩) h.le _, h.le⟩
theorem Wb.putJ (h : Wb w0 w b g sa i j s) (n : Int) : Wb w0 (w.setCell ⟨b, 3, none⟩ (.int .i64 n)) b g sa i n s := ⟨by rw [heap_setCell_same _ _ _ _ _ _ h.box]; rfl, h.low.setCell (p := ⟨b, 3, none⟩) h.le _, h.le⟩
set_option maxRecDepth 10000 in
theorem wback_calls (h : Wb w0 w b g sa i j s) (st : Int) (hst : 1 ≤ st ∧ st ≤ 3) (hi : -70000 ≤ i ∧ i ≤ 70000) (hj : -70000 ≤ j ∧ j ≤ 70000) :
    Calls Tryz.prog 43 #[.pointer (some ⟨b, 0, none⟩), .int .i64 st] w fun e w' => e = .returned (.int .u8 (colB st)) ∧ Wb w0 w' b g sa (i - (backB st).1) (j - (backB st).2) s ∧ (∀ t, t ≠ b → w'.heap[t]? = w.heap[t]?) := by
  have hl := lt_block h.box
  have c2 := h.cell 2 (.int .i64 i) rfl
  have f2 := h.fz 2
  have c3 := h.cell 3 (.int .i64 j) rfl
  have f3 := h.fz 3
  have HB : Hid (Wb w0 w b g sa i j s) := h
  have HO : ∀ (W : World) (k : Nat) (v : Value) (t : Nat), t ≠ b → (W.setCell ⟨b, k, none⟩ v).heap[t]? = W.heap[t]? := fun W k v t ht => Below.heap_setCell _ _ _ _ ht
  have HOh : Hid (∀ (W : World) (k : Nat) (v : Value) (t : Nat), t ≠ b → (W.setCell ⟨b, k, none⟩ v).heap[t]? = W.heap[t]?) := HO
  clear h HO
  obtain ⟨i1, i2⟩ := hi
  obtain ⟨j1, j2⟩ := hj
  have : st = 1 ∨ st = 2 ∨ st = 3 := by omega
  clear hst
  rcases this with rfl | rfl | rfl
  · have HE : Hid (Wb w0 ((w.setCell ⟨b, 2, none⟩ (.int .i64 (i - 1))).setCell ⟨b, 3, none⟩ (.int .i64 (j - 1))) b g sa (i - 1) (j - 1) s) := (HB.out.putI (i - 1)).putJ (j - 1)
    clear HB
    go_enter Tryz.func43, Tryz.ntmps43
    go_wp2
    go_ret
    exact ⟨rfl, HE.out, fun t ht => (HOh.out _ _ _ t ht).trans (HOh.out _ _ _ t ht)⟩
  · have HE : Hid (Wb w0 (w.setCell ⟨b, 2, none⟩ (.int .i64 (i - 1))) b g sa (i - 1) (j - 0) s) := by show Wb _ _ _ _ _ _ _ _; rw [Int.sub_zero]; exact HB.out.putI (i - 1)
    clear HB
    go_enter Tryz.func43, Tryz.ntmps43
    go_wp2
    go_ret
    exact ⟨rfl, HE.out, fun t ht => HOh.out _ _ _ t ht⟩
  · have HE : Hid (Wb w0 (w.setCell ⟨b, 3, none⟩ (.int .i64 (j - 1))) b g sa (i - 0) (j - 1) s) := by show Wb _ _ _ _ _ _ _ _; rw [Int.sub_zero]; exact HB.out.putJ (j - 1)
    clear HB
    go_enter Tryz.func43, Tryz.ntmps43
    go_wp2
    go_ret
    exact ⟨rfl, HE.out, fun t ht => HOh.out _ _ _ t ht⟩
end
end Go.Proofs.YtnkfibahkmmnpaaGreat
namespace Go.Proofs.YtnkfibahkmmnpaaGreat
open Go.RowKit

def setC (s : Nat → Bool) : Array Value := #[.bool (s 0), .bool (s 1), .bool (s 2), .bool (s 3), .bool (s 4), .bool (s 5), .bool (s 6), .bool (s 7), .bool (s 8), .bool (s 9)]
theorem setC_put (s : Nat → Bool) {p : Nat} (hp : p < 10) : (setC s).setIfInBounds p (.bool true) = setC (putP s p) := by
  have : p = 0 ∨ p = 1 ∨ p = 2 ∨ p = 3 ∨ p = 4 ∨ p = 5 ∨ p = 6 ∨ p = 7 ∨ p = 8 ∨ p = 9 := by omega
  rcases this with rfl | rfl | rfl | rfl | rfl | rfl | rfl | rfl | rfl | rfl <;> rfl
theorem setC_get (s : Nat → Bool) {p : Nat} (hp : p < 10) : (setC s)[p]? = some (.bool (s p)) := by
  have : p = 0 ∨ p = 1 ∨ p = 2 ∨ p = 3 ∨ p = 4 ∨ p = 5 ∨ p = 6 ∨ p = 7 ∨ p = 8 ∨ p = 9 := by omega
  rcases this with rfl | rfl | rfl | rfl | rfl | rfl | rfl | rfl | rfl | rfl <;> rfl
/-- The set of a list. -/
def setL (l : List Int) : Nat → Bool := l.foldl (fun s p => putP s p.toNat) (fun _ => false)
theorem setL_snoc (l : List Int) (p : Int) : setL (l ++ [p]) = putP (setL l) p.toNat := by unfold setL; rw [List.foldl_append]; rfl
set_option maxRecDepth 10000 in
set_option maxHeartbeats 1000000 in
theorem setOf_calls (a : Option Addr) (n cap : Nat) (l : List Int) (w : World) (h : IntsAt w a n l) (hl : ∀ p ∈ l, 0 ≤ p ∧ p < 10) :
    Calls Tryz.prog 21 #[.slice a n cap] w fun e w' => e = .returned (.agg (setC (setL l))) ∧ Below w.heap.size w w' := by
  have HL : Hid (IntsAt w a n l ∧ ∀ p ∈ l, 0 ≤ p ∧ p < 10) := ⟨h, hl⟩
  have hn := h.length
  have hsh := h.short
  unfold maxLen at hsh
  have HZ : Hid (setL [] = fun _ => false) := rfl
  have H0 : Hid (((w.alloc (.cells #[.bool false, .bool false, .bool false, .bool false, .bool false, .bool false, .bool false, .bool false, .bool false, .bool false] 70)).alloc (.cells #[.bool false, .bool false, .bool false, .bool false, .bool false, .bool false, .bool false, .bool false, .bool false, .bool false] 70)).heap[w.heap.size]? = some (.cells (setC fun _ => false) 70 (0, 0)) ∧ ((w.alloc (.cells #[.bool false, .bool false, .bool false, .bool false, .bool false, .bool false, .bool false, .bool false, .bool false, .bool false] 70)).alloc (.cells #[.bool false, .bool false, .bool false, .bool false, .bool false, .bool false, .bool false, .bool false, .bool false, .bool false] 70)).heap[w.heap.size + 1]? = some (.cells (setC fun _ => false) 70 (0, 0)) ∧ Below w.heap.size w ((w.alloc (.cells #[.bool false, .bool false, .bool false, .bool false, .bool false, .bool false, .bool false, .bool false, .bool false, .bool false] 70)).alloc (.cells #[.bool false, .bool false, .bool false, .bool false, .bool false, .bool false, .bool false, .bool false, .bool false, .bool false] 70))) := by
    refine ⟨?_, ?_, (below_new _).alloc (by simp) _⟩
    · rw [(below_new _).block _ (by simp)]; exact heap_alloc_new _ _
    · have : (w.alloc (.cells #[.bool false, .bool false, .bool false, .bool false, .bool false, .bool false, .bool false, .bool false, .bool false, .bool false] 70)).heap.size = w.heap.size + 1 := by simp
      rw [← this]; exact heap_alloc_new _ _
  obtain ⟨S, hS⟩ : ∃ S, setL l = S := ⟨_, rfl⟩
  have HS : Hid (setL l = S) := hS
  rw [hS]
  clear h hl hS
  have hres : Tryz.f21.results = #[.cell 2 70] := by kernel_rfl
  go_enter Tryz.func21, Tryz.ntmps21
  go_wp2
  have hsz : ((w.alloc (.cells #[.bool false, .bool false, .bool false, .bool false, .bool false, .bool false, .bool false, .bool false, .bool false, .bool false] 70)).alloc (.cells #[.bool false, .bool false, .bool false, .bool false, .bool false, .bool false, .bool false, .bool false, .bool false, .bool false] 70)).heap.size = w.heap.size + 1 + 1 := by simp
  generalize ((w.alloc (.cells #[.bool false, .bool false, .bool false, .bool false, .bool false, .bool false, .bool false, .bool false, .bool false, .bool false] 70)).alloc (.cells #[.bool false, .bool false, .bool false, .bool false, .bool false, .bool false, .bool false, .bool false, .bool false, .bool false] 70)) = wA at *
  clear hsz
  go_loopg [5, 8] n (fun q u pv wr => ∃ i : Nat, i + q = n ∧ pv = .int .i64 i ∧ Hid (wr.heap[w.heap.size]? = some (.cells (setC fun _ => false) 70 (0, 0)) ∧ wr.heap[w.heap.size + 1]? = some (.cells (setC (setL (l.take i))) 70 (0, 0)) ∧ Below w.heap.size w wr))
  case atStart =>
    refine ⟨0, by omega, rfl, ?_⟩
    rw [List.take_zero, HZ.out]
    exact H0
  case round =>
    clear H0
    obtain ⟨i, hiq, rfl, HP⟩ := hrel
    by_cases hi : i < n
    rotate_left
    · have hd : decide ((i : Int) < (n : Int)) = false := decide_eq_false (by omega)
      have hin : i = n := by omega
      subst hin
      have hlt : l.take i = l := by rw [← hn]; exact List.take_length
      rw [hlt, HS.out] at HP
      clear hlt
      have c0 := cell_block HP.out.2.1 0 (.bool (S 0)) rfl
      have c1 := cell_block HP.out.2.1 1 (.bool (S 1)) rfl
      have c2 := cell_block HP.out.2.1 2 (.bool (S 2)) rfl
      have c3 := cell_block HP.out.2.1 3 (.bool (S 3)) rfl
      have c4 := cell_block HP.out.2.1 4 (.bool (S 4)) rfl
      have c5 := cell_block HP.out.2.1 5 (.bool (S 5)) rfl
      have c6 := cell_block HP.out.2.1 6 (.bool (S 6)) rfl
      have c7 := cell_block HP.out.2.1 7 (.bool (S 7)) rfl
      have c8 := cell_block HP.out.2.1 8 (.bool (S 8)) rfl
      have c9 := cell_block HP.out.2.1 9 (.bool (S 9)) rfl
      have d0 := cell_block HP.out.1 0 (.bool false) rfl
      have d1 := cell_block HP.out.1 1 (.bool false) rfl
      have d2 := cell_block HP.out.1 2 (.bool false) rfl
      have d3 := cell_block HP.out.1 3 (.bool false) rfl
      have d4 := cell_block HP.out.1 4 (.bool false) rfl
      have d5 := cell_block HP.out.1 5 (.bool false) rfl
      have d6 := cell_block HP.out.1 6 (.bool false) rfl
      have d7 := cell_block HP.out.1 7 (.bool false) rfl
      have d8 := cell_block HP.out.1 8 (.bool false) rfl
      have d9 := cell_block HP.out.1 9 (.bool false) rfl
      have rf : ∀ k, wr.frozen? ⟨w.heap.size, k, none⟩ = false := fun k => frozen_of_row _ _ k _ _ HP.out.1
      have HF : Hid (Below w.heap.size w wr) := HP.out.2.2
      have HX : Hid (∀ W : World, Below w.heap.size w W → Ending.returned (.agg #[.bool (S 0), .bool (S 1), .bool (S 2), .bool (S 3), .bool (S 4), .bool (S 5), .bool (S 6), .bool (S 7), .bool (S 8), .bool (S 9)]) = .returned (.agg (setC S)) ∧ Below w.heap.size w W) := fun W hW => ⟨rfl, hW⟩
      clear HP
      go_wp2
      refine bodyPost_ret (v := .agg #[.bool (S 0), .bool (S 1), .bool (S 2), .bool (S 3), .bool (S 4), .bool (S 5), .bool (S 6), .bool (S 7), .bool (S 8), .bool (S 9)]) ?_ rfl (HX.out _ ?_)
      · simp only [results, hres]
        go_simp
      · exact ((((((((((HF.out.setCell (p := ⟨w.heap.size, 0, none⟩) (Nat.le_refl _) _).setCell (p := ⟨w.heap.size, 1, none⟩) (Nat.le_refl _) _).setCell (p := ⟨w.heap.size, 2, none⟩) (Nat.le_refl _) _).setCell (p := ⟨w.heap.size, 3, none⟩) (Nat.le_refl _) _).setCell (p := ⟨w.heap.size, 4, none⟩) (Nat.le_refl _) _).setCell (p := ⟨w.heap.size, 5, none⟩) (Nat.le_refl _) _).setCell (p := ⟨w.heap.size, 6, none⟩) (Nat.le_refl _) _).setCell (p := ⟨w.heap.size, 7, none⟩) (Nat.le_refl _) _).setCell (p := ⟨w.heap.size, 8, none⟩) (Nat.le_refl _) _).setCell (p := ⟨w.heap.size, 9, none⟩) (Nat.le_refl _) _)
    have hd : decide ((i : Int) < (n : Int)) = true := decide_eq_true (by omega)
    obtain ⟨lb, loff, hla, hlc⟩ := HL.out.1.cells (by omega)
    have hlc := hlc i (by omega)
    have e0 := cell_bl HP.out.2.2 hlc
    have hmem : l.getD i 0 ∈ l := by
      rw [List.getD_eq_getElem?_getD, List.getElem?_eq_getElem (by omega)]
      exact List.getElem_mem _
    have hr := HL.out.2 _ hmem
    have htk : l.take (i + 1) = l.take i ++ [l.getD i 0] := by
      rw [List.getD_eq_getElem?_getD, List.getElem?_eq_getElem (show i < l.length by omega)]
      simp
    have HT : Hid (l.take (i + 1) = l.take i ++ [l.getD i 0]) := htk
    obtain ⟨p, hp⟩ : ∃ p : Nat, l.getD i 0 = p := ⟨(l.getD i 0).toNat, by omega⟩
    rw [hp] at e0 HT hr
    obtain rfl := hla
    clear htk hmem hlc hp
    have hp10 : p < 10 := by omega
    have c0 := cell_block HP.out.2.1 p (.bool (setL (l.take i) p)) (setC_get _ hp10)
    have f0 := frozen_of_row _ _ p _ _ HP.out.2.1
    have hgk : 0 < gk := by omega
    have HN : Hid ((wr.setCell ⟨w.heap.size + 1, p, none⟩ (.bool true)).heap[w.heap.size]? = some (.cells (setC fun _ => false) 70 (0, 0)) ∧ (wr.setCell ⟨w.heap.size + 1, p, none⟩ (.bool true)).heap[w.heap.size + 1]? = some (.cells (setC (setL (l.take (i + 1)))) 70 (0, 0)) ∧ Below w.heap.size w (wr.setCell ⟨w.heap.size + 1, p, none⟩ (.bool true))) := by
      refine ⟨?_, ?_, HP.out.2.2.setCell (p := ⟨w.heap.size + 1, p, none⟩) (by show w.heap.size ≤ w.heap.size + 1; omega) _⟩
      · rw [Below.heap_setCell _ _ _ _ (by show w.heap.size ≠ w.heap.size + 1; omega)]; exact HP.out.1
      · rw [heap_setCell_same _ _ _ _ _ _ HP.out.2.1, setC_put _ hp10, HT.out, setL_snoc]; rfl
    clear HP
    go_wp2
    go_roundg (gk - 1)
    case rel => exact ⟨i + 1, by omega, by go_num, HN⟩
    case measure => omega
end Go.Proofs.YtnkfibahkmmnpaaGreat
namespace Go.Proofs.YtnkfibahkmmnpaaGreat
open Go.RowKit

structure EndOk (P X Y : Nat) (F : Nat → Ct) (e : En) : Prop where
  cell : e.found = true → ∃ i j : Nat, e.i = i ∧ e.j = j ∧ i ≤ X ∧ j ≤ Y ∧ (∃ p, e.planes p = true) ∧ ∀ p : Nat, e.planes p = true → (atB P X Y F p i j).has = true
structure CellE (c : Cd) (X Y : Nat) (pre : List (Nat × Nat)) (i j : Nat) (S : St) (M : Ms) : Prop where
  ends : EndOk c.planes.toNat X Y M.slots M.ends
  cur : M.ends.found = true → M.ends.i = i → M.ends.j = j → ∀ p, M.ends.planes p = true → (S.pl p).1 = true
  pos : M.ends.found = true → (∃ u v : Nat, (u, v) ∈ pre ∧ M.ends.i = u ∧ M.ends.j = v) ∨ (M.ends.i = i ∧ M.ends.j = j)
theorem end_cases (e : En) (p : Nat) (i j n : Int) : endB e p i j n = ⟨true, n, i, j, fun k => if k = p then true else false⟩ ∨
    (e.found = true ∧ e.i = i ∧ e.j = j ∧ endB e p i j n = ⟨e.found, e.score, e.i, e.j, fun k => if k = p then true else e.planes k⟩) ∨ endB e p i j n = e := by
  unfold endB
  by_cases h : (!e.found || decide (e.score < n)) = true
  · left
    simp only [h, if_true, and_self]
  · simp only [h, Bool.false_eq_true, if_false]
    by_cases h2 : e.score = n ∧ e.i = i ∧ e.j = j
    · right; left
      refine ⟨?_, h2.2.1, h2.2.2, by rw [if_pos h2]⟩
      cases hf : e.found with
      | true => rfl
      | false => rw [hf] at h; exact absurd rfl h
    · right; right; rw [if_neg h2]
theorem act_low (c : Cd) (x y : List Int) (i j : Nat) (M : Ms) (S : St) {q : Qd} (h1 : 1 ≤ q.1) (h7 : q.1 < 7) : (actB c x y i j M q).ends = M.ends ∧ (actB c x y i j M q).slots = M.slots ∧ (pastP S q).pl = S.pl := by
  have : q.1 = 1 ∨ q.1 = 2 ∨ q.1 = 3 ∨ q.1 = 4 ∨ q.1 = 5 ∨ q.1 = 6 := by omega
  rcases this with e | e | e | e | e | e
  · simp only [actB, pastP, e]; exact ⟨rfl, rfl, rfl⟩
  · simp only [actB, pastP, e]; exact ⟨rfl, rfl, rfl⟩
  · simp only [actB, pastP, e]; exact ⟨rfl, rfl, rfl⟩
  · simp only [actB, pastP, e]; exact ⟨rfl, rfl, rfl⟩
  · refine ⟨?_, ?_, ?_⟩
    · simp only [actB, e]
      show (if i = 0 ∨ j = 0 then _ else _ : Ms).ends = _
      split <;> rfl
    · simp only [actB, e]
      show (if i = 0 ∨ j = 0 then _ else _ : Ms).slots = _
      split <;> rfl
    · simp only [pastP, e]; rfl
  · simp only [actB, pastP, e]; exact ⟨rfl, rfl, rfl⟩
theorem CellE.act {c : Cd} (hg : Gk c) {x y : List Int} {pre : List (Nat × Nat)} {i j : Nat} (hi : i ≤ x.length) (hj : j ≤ y.length) {S : St} {M : Ms} (h : CellE c x.length y.length pre i j S M) {q : Qd} (hq : q ∈ c.cell) (he : errB c S q = 0) :
    CellE c x.length y.length pre i j (pastP S q) (actB c x y i j M q) := by
  obtain ⟨e1, e2, e3, e4⟩ := err_0 he
  have hn := hg.nam hq
  by_cases h7 : q.1 < 7
  · obtain ⟨a1, a2, a3⟩ := act_low c x y i j M S hn.1.1 h7
    exact ⟨by rw [a1, a2]; exact h.ends, by rw [a1, a3]; exact h.cur, by rw [a1]; exact h.pos⟩
  by_cases h8 : q.1 = 7
  · have hp7 := hg.keepP q hq h8
    have hF : (S.pl q.2.1.toNat).1 = false := by
      unfold twB at e3
      rw [h8] at e3
      simpa using e3
    have a1 : (actB c x y i j M q).ends = M.ends := by simp only [actB, h8]; rfl
    have a3 : (pastP S q).pl = updP S.pl q.2.1.toNat (true, (S.regs q.2.2.1.toNat).weight) := by simp only [pastP, h8]; rfl
    obtain ⟨v, a2⟩ : ∃ v, (actB c x y i j M q).slots = updC M.slots (placeB c.planes.toNat y.length q.2.1.toNat i j) v := by simp only [actB, h8]; exact ⟨_, rfl⟩
    refine ⟨⟨fun hf => ?_⟩, fun hf hei hej p hp => ?_, by rw [a1]; exact h.pos⟩
    · rw [a1] at hf ⊢
      obtain ⟨u, t, hu, ht, hux, hty, hsome, hall⟩ := h.ends.cell hf
      refine ⟨u, t, hu, ht, hux, hty, hsome, fun p hp => ?_⟩
      have h0 := hall p hp
      rw [a2]
      by_cases hpP : p < c.planes.toNat
      · rw [atB_in hpP hux hty] at h0 ⊢
        rw [updC_ne]
        · exact h0
        · intro ee
          obtain ⟨x1, x2, x3⟩ := place_inj hpP hp7 hty hj ee
          have := h.cur hf (by rw [hu, x2]) (by rw [ht, x3]) p hp
          rw [x1, hF] at this
          exact Bool.noConfusion this
      · exfalso
        rw [at_off (by omega)] at h0
        exact Bool.noConfusion h0
    · rw [a1] at hf hei hej hp
      rw [a3]
      unfold updP
      split
      · rfl
      · exact h.cur hf hei hej p hp
  · have h8' : q.1 = 8 := by have := hn.1; omega
    have a2 : (actB c x y i j M q).slots = M.slots := by
      unfold actB
      rw [if_neg (by omega), if_neg (by omega), if_neg (by omega), if_neg (by omega), if_neg (by omega), if_neg (by omega), if_neg (by omega)]
      show (if _ then _ else M : Ms).slots = _
      split <;> rfl
    have a3 : (pastP S q).pl = S.pl := by
      unfold pastP
      rw [if_neg (by omega), if_neg (by omega), if_neg (by omega), if_neg (by omega), if_neg (by omega), if_neg (by omega)]
      rfl
    have hS : (S.pl q.2.1.toNat).1 = true := by
      unfold rdB at e2
      rw [h8'] at e2
      simpa using e2
    have hq0 : (q.2.1.toNat : Int) = q.2.1 := by have := hn.2.1.1; omega
    have a1 : (actB c x y i j M q).ends = M.ends ∨ ∃ n, (actB c x y i j M q).ends = endB M.ends q.2.1.toNat i j n ∧ (atB c.planes.toNat x.length y.length M.slots q.2.1 i j).has = true := by
      have ea : actB c x y i j M q = if ((atB c.planes.toNat x.length y.length M.slots q.2.1 i j).has && metB q.2.2.2 (decide (i = x.length)) (decide (j = y.length))) = true then { M with ends := endB M.ends q.2.1.toNat i j (wrap64 ((atB c.planes.toNat x.length y.length M.slots q.2.1 i j).num + c.consts.getD q.2.2.1.toNat 0)) } else M := by
        unfold actB
        rw [if_neg (by omega), if_neg (by omega), if_neg (by omega), if_neg (by omega), if_neg (by omega), if_neg (by omega), if_neg (by omega)]
      rw [ea]
      split
      · rename_i hh
        rw [Bool.and_eq_true] at hh
        exact Or.inr ⟨_, rfl, hh.1⟩
      · exact Or.inl rfl
    rcases a1 with a1 | ⟨n, a1, hv⟩
    · exact ⟨by rw [a1, a2]; exact h.ends, by rw [a1, a3]; exact h.cur, by rw [a1]; exact h.pos⟩
    · rcases end_cases M.ends q.2.1.toNat i j n with e | ⟨z1, z2, z3, e⟩ | e
      · rw [e] at a1
        refine ⟨⟨fun _ => ⟨i, j, by rw [a1], by rw [a1], hi, hj, ⟨q.2.1.toNat, by rw [a1]; exact if_pos rfl⟩, fun p hp => ?_⟩⟩, fun _ _ _ p hp => ?_, fun _ => Or.inr ⟨by rw [a1], by rw [a1]⟩⟩
        · rw [a1] at hp
          have hp' : (if p = q.2.1.toNat then true else false) = true := hp
          by_cases ep : p = q.2.1.toNat
          · rw [a2, ep, hq0]; exact hv
          · rw [if_neg ep] at hp'; exact Bool.noConfusion hp'
        · rw [a1] at hp
          have hp' : (if p = q.2.1.toNat then true else false) = true := hp
          by_cases ep : p = q.2.1.toNat
          · rw [a3, ep]; exact hS
          · rw [if_neg ep] at hp'; exact Bool.noConfusion hp'
      · rw [e] at a1
        refine ⟨⟨fun _ => ⟨i, j, by rw [a1]; exact z2, by rw [a1]; exact z3, hi, hj, ⟨q.2.1.toNat, by rw [a1]; exact if_pos rfl⟩, fun p hp => ?_⟩⟩, fun _ _ _ p hp => ?_, fun _ => Or.inr ⟨by rw [a1]; exact z2, by rw [a1]; exact z3⟩⟩
        · rw [a1] at hp
          have hp' : (if p = q.2.1.toNat then true else M.ends.planes p) = true := hp
          by_cases ep : p = q.2.1.toNat
          · rw [a2, ep, hq0]; exact hv
          · rw [if_neg ep] at hp'
            obtain ⟨u, t, hu, ht, hux, hty, hsome, hall⟩ := h.ends.cell z1
            have hui : u = i := by have : (u : Int) = i := hu.symm.trans z2; omega
            have htj : t = j := by have : (t : Int) = j := ht.symm.trans z3; omega
            rw [a2, ← hui, ← htj]
            exact hall p hp'
        · rw [a1] at hp
          have hp' : (if p = q.2.1.toNat then true else M.ends.planes p) = true := hp
          rw [a3]
          by_cases ep : p = q.2.1.toNat
          · rw [ep]; exact hS
          · rw [if_neg ep] at hp'
            exact h.cur z1 z2 z3 p hp'
      · rw [e] at a1
        exact ⟨by rw [a1, a2]; exact h.ends, by rw [a1, a3]; exact h.cur, by rw [a1]; exact h.pos⟩
structure RunE (c : Cd) (X Y : Nat) (pre : List (Nat × Nat)) (M : Ms) : Prop where
  ends : EndOk c.planes.toNat X Y M.slots M.ends
  pos : M.ends.found = true → ∃ u v : Nat, (u, v) ∈ pre ∧ M.ends.i = u ∧ M.ends.j = v
theorem run_ends {c : Cd} (hg : Gk c) (x y : List Int) : RunE c x.length y.length (cellsL c x.length y.length) (runM c x y) := by
  rw [runM_cells]
  refine cells_ind c x.length y.length (fun M p => cellM c x y p.1 p.2 M) ms0 (RunE c x.length y.length) ⟨⟨fun h => Bool.noConfusion h⟩, fun h => Bool.noConfusion h⟩ ?_
  intro pre i j M hi hj hb hpre h
  have hc : CellE c x.length y.length pre i j (goP c (st0 0) 0 c.cell).2 (c.cell.foldl (actB c x y i j) M) :=
    cell_sim c (actB c x y i j) (CellE c x.length y.length pre i j) c.cell (st0 0) 0 M hg.go (fun _ hq _ _ he h => h.act hg hi hj hq he)
      ⟨h.ends, fun hf hei hej => by
        obtain ⟨u, v, hm, hu, hv⟩ := h.pos hf
        have hl := ((hpre u v).1 hm).2
        unfold lexB at hl
        exfalso; omega, fun hf => Or.inl (h.pos hf)⟩
  refine ⟨hc.ends, fun hf => ?_⟩
  rcases hc.pos hf with ⟨u, v, hm, hu, hv⟩ | ⟨hu, hv⟩
  · exact ⟨u, v, List.mem_append_left _ hm, hu, hv⟩
  · exact ⟨i, j, by simp, hu, hv⟩
theorem setL_iff (l : List Int) (p : Nat) : setL l p = true ↔ ∃ z ∈ l, z.toNat = p := by
  have key : ∀ (l : List Int) (s : Nat → Bool), l.foldl (fun s p => putP s p.toNat) s p = true ↔ s p = true ∨ ∃ z ∈ l, z.toNat = p := by
    intro l
    induction l with
    | nil => intro s; simp
    | cons a l ih =>
      intro s
      rw [List.foldl_cons, ih]
      unfold putP
      by_cases e : p = a.toNat
      · rw [if_pos e]; simp [e]
      · rw [if_neg e]
        constructor
        · rintro (h | ⟨z, hz, h⟩)
          · exact Or.inl h
          · exact Or.inr ⟨z, by simp [hz], h⟩
        · rintro (h | ⟨z, hz, h⟩)
          · exact Or.inl h
          · rcases List.mem_cons.1 hz with rfl | hz
            · exact absurd h.symm e
            · exact Or.inr ⟨z, hz, h⟩
  have := key l (fun _ => false)
  simpa [setL] using this
theorem ris_mem (e : En) (z : Int) : z ∈ risB e ↔ ∃ k : Nat, k < 10 ∧ e.planes k = true ∧ z = k := by
  unfold risB
  simp only [List.mem_map, List.mem_filter, List.mem_range]
  constructor
  · rintro ⟨k, ⟨h1, h2⟩, rfl⟩; exact ⟨k, h1, h2, rfl⟩
  · rintro ⟨k, h1, h2, rfl⟩; exact ⟨k, ⟨h1, h2⟩, rfl⟩
theorem ris_set (e : En) (p : Nat) (hp : p < 10) : setL (risB e) p = e.planes p := by
  rw [Bool.eq_iff_iff, setL_iff]
  constructor
  · rintro ⟨z, hz, rfl⟩
    obtain ⟨k, h1, h2, rfl⟩ := (ris_mem e z).1 hz
    exact h2
  · intro h
    exact ⟨(p : Int), (ris_mem e p).2 ⟨p, hp, h, rfl⟩, by omega⟩
theorem ris_small (e : En) : ∀ p ∈ risB e, 0 ≤ p ∧ p < 10 := fun z hz => by
  obtain ⟨k, h1, h2, rfl⟩ := (ris_mem e z).1 hz
  omega
theorem Gk.ten {c : Cd} (h : Gk c) : c.planes.toNat ≤ 10 := by
  have := h.rt.planes
  omega
/-- Where the walk back begins. -/
theorem wk_start {c : Cd} (hg : Gk c) {x y : List Int} (hf : (runM c x y).ends.found = true) :
    ∃ i j : Nat, (runM c x y).ends.i = i ∧ (runM c x y).ends.j = j ∧ i ≤ x.length ∧ j ≤ y.length ∧ Wk c x y i j (setL (risB (runM c x y).ends)) := by
  obtain ⟨i, j, h1, h2, h3, h4, ⟨p, hp⟩, h6⟩ := (run_ends hg x y).ends.cell hf
  have h10 := hg.ten
  have hs : ∀ p : Nat, (runM c x y).ends.planes p = true → p < 10 := fun p hp => by
    obtain ⟨g, _⟩ := has_in (h6 p hp)
    omega
  refine ⟨i, j, h1, h2, h3, h4, ⟨p, by rw [ris_set _ _ (hs p hp)]; exact hp⟩, fun q hq => ?_⟩
  obtain ⟨z, hz, rfl⟩ := (setL_iff _ _).1 hq
  obtain ⟨k, k1, k2, rfl⟩ := (ris_mem _ _).1 hz
  exact h6 k k2
/-- What has a number was run. -/
theorem has_run {c : Cd} (hg : Gk c) {x y : List Int} {p i j : Nat} (h : hasP c x y p i j = true) : inBd c i j = true := by
  obtain ⟨h1, h2, h3⟩ := has_in h
  have hp2 : p < c.planes.toNat := by omega
  have hi : i ≤ x.length := by omega
  have hj : j ≤ y.length := by omega
  have hk := run_kept hg x y
  unfold hasP at h
  rw [atB_in hp2 hi hj] at h
  by_cases hm : (i, j) ∈ cellsL c x.length y.length
  · exact ((cells_mem c _ _ i j).1 hm).2.2
  · exfalso
    rw [hk.off i j p hj hp2 hm] at h
    exact Bool.noConfusion h
end Go.Proofs.YtnkfibahkmmnpaaGreat
namespace Go.Proofs.YtnkfibahkmmnpaaGreat
open Go.RowKit

def goS (m : Int → Nat) (s : Nat → Bool) (st : Int) (r : (Nat → Bool) × Bool) (a : Qd) : (Nat → Bool) × Bool := if a.2.2.2 = st ∧ openB m s a = true then (putP r.1 a.2.2.1.toNat, true) else r
def goL (m : Int → Nat) (s : Nat → Bool) (st : Int) (l : List Qd) : (Nat → Bool) × Bool := l.foldl (goS m s st) (fun _ => false, false)
theorem goL_snoc (m : Int → Nat) (s : Nat → Bool) (st : Int) (l : List Qd) (a : Qd) : goL m s st (l ++ [a]) = goS m s st (goL m s st l) a := by unfold goL; rw [List.foldl_append]; rfl
theorem goL_in (m : Int → Nat) (s : Nat → Bool) (st : Int) (l : List Qd) :
    (∀ p, (goL m s st l).1 p = true ↔ ∃ a ∈ l, a.2.2.2 = st ∧ openB m s a = true ∧ a.2.2.1.toNat = p) ∧ ((goL m s st l).2 = true ↔ ∃ a ∈ l, a.2.2.2 = st ∧ openB m s a = true) := by
  have key : ∀ (l : List Qd) (r : (Nat → Bool) × Bool), (∀ p, (l.foldl (goS m s st) r).1 p = true ↔ r.1 p = true ∨ ∃ a ∈ l, a.2.2.2 = st ∧ openB m s a = true ∧ a.2.2.1.toNat = p) ∧ ((l.foldl (goS m s st) r).2 = true ↔ r.2 = true ∨ ∃ a ∈ l, a.2.2.2 = st ∧ openB m s a = true) := by
    intro l
    induction l with
    | nil => intro r; simp
    | cons a l ih =>
      intro r
      obtain ⟨i1, i2⟩ := ih (goS m s st r a)
      rw [List.foldl_cons]
      by_cases h : a.2.2.2 = st ∧ openB m s a = true
      · have e : goS m s st r a = (putP r.1 a.2.2.1.toNat, true) := by unfold goS; rw [if_pos h]
        rw [e] at i1 i2 ⊢
        refine ⟨fun p => ?_, ?_⟩
        · rw [i1 p]
          unfold putP
          by_cases ep : p = a.2.2.1.toNat
          · simp only [if_pos ep, true_or, true_iff]
            exact Or.inr ⟨a, List.mem_cons_self, h.1, h.2, ep.symm⟩
          · simp only [if_neg ep]
            constructor
            · rintro (z | ⟨b, hb, z⟩)
              · exact Or.inl z
              · exact Or.inr ⟨b, List.mem_cons_of_mem _ hb, z⟩
            · rintro (z | ⟨b, hb, z1, z2, z3⟩)
              · exact Or.inl z
              · rcases List.mem_cons.1 hb with rfl | hb
                · exact absurd z3.symm ep
                · exact Or.inr ⟨b, hb, z1, z2, z3⟩
        · rw [i2]
          simp only [true_or, true_iff]
          exact Or.inr ⟨a, List.mem_cons_self, h.1, h.2⟩
      · have e : goS m s st r a = r := by unfold goS; rw [if_neg h]
        rw [e] at i1 i2 ⊢
        refine ⟨fun p => ?_, ?_⟩
        · rw [i1 p]
          constructor
          · rintro (z | ⟨b, hb, z⟩)
            · exact Or.inl z
            · exact Or.inr ⟨b, List.mem_cons_of_mem _ hb, z⟩
          · rintro (z | ⟨b, hb, z1, z2, z3⟩)
            · exact Or.inl z
            · rcases List.mem_cons.1 hb with rfl | hb
              · exact absurd ⟨z1, z2⟩ h
              · exact Or.inr ⟨b, hb, z1, z2, z3⟩
        · rw [i2]
          constructor
          · rintro (z | ⟨b, hb, z⟩)
            · exact Or.inl z
            · exact Or.inr ⟨b, List.mem_cons_of_mem _ hb, z⟩
          · rintro (z | ⟨b, hb, z1, z2⟩)
            · exact Or.inl z
            · rcases List.mem_cons.1 hb with rfl | hb
              · exact absurd ⟨z1, z2⟩ h
              · exact Or.inr ⟨b, hb, z1, z2⟩
  have := key l (fun _ => false, false)
  simpa [goL] using this
/-- One goes back by the least column, and by no lesser one. -/
theorem Wk.goes {c : Cd} (hg : Gk c) {x y : List Int} {i j : Nat} {s : Nat → Bool} (h : Wk c x y i j s) (h0 : s 0 = false) :
    goL (maskB c x y i j) s (leastAt c x y i j s).1 c.arrows = ((leastAt c x y i j s).2, true) ∧ ∀ st : Int, st < (leastAt c x y i j s).1 → (goL (maskB c x y i j) s st c.arrows).2 = false := by
  obtain ⟨p, hp⟩ := h.some'
  have hp1 : 1 ≤ p := by
    rcases Nat.eq_zero_or_pos p with e | e
    · rw [e, h0] at hp; cases hp
    · exact e
  obtain ⟨a, ha, ho⟩ := way_is hg hp hp1 (h.has p hp)
  obtain ⟨b, hb, ho2, he, hf⟩ := leastB_some (fun a ha => (hg.arw ha).2.2.2.2) ha ho
  have hfr := leastB_ok (maskB c x y i j) s c.arrows
  unfold leastAt
  refine ⟨?_, fun st hst => ?_⟩
  · obtain ⟨g1, g2⟩ := goL_in (maskB c x y i j) s (leastB (maskB c x y i j) s c.arrows).1 c.arrows
    refine Prod.ext (funext fun q => ?_) (g2.2 ⟨b, hb, he, ho2⟩)
    rw [Bool.eq_iff_iff, g1 q]
    constructor
    · rintro ⟨d, hd, h1, h2, rfl⟩
      exact hfr.all d hd h2 h1
    · intro hq
      obtain ⟨d, hd, h1, h2, h3⟩ := hfr.from' q hq
      exact ⟨d, hd, h2, h1, h3⟩
  · cases e : (goL (maskB c x y i j) s st c.arrows).2 with
    | false => rfl
    | true =>
      exfalso
      obtain ⟨d, hd, h1, h2⟩ := (goL_in (maskB c x y i j) s st c.arrows).2.1 e
      have := hfr.low d hd h2
      omega
/-- What is left of the way back, behind k columns. -/
structure Wy (c : Cd) (x y : List Int) (cols : List Int) (I J k i j : Nat) (s : Nat → Bool) : Prop where
  wk : Wk c x y i j s
  rest : ∃ N, i + j < N ∧ goW c x y N i j s = (cols.drop k, I, J)
theorem goW_zero (c : Cd) (x y : List Int) (n i j : Nat) {s : Nat → Bool} (h : s 0 = true) : goW c x y (n + 1) i j s = ([], i, j) := by
  show (if s 0 = true then _ else _) = _
  rw [if_pos h]
theorem goW_go (c : Cd) (x y : List Int) (n i j : Nat) {s : Nat → Bool} (h : s 0 = false) {u v : Nat} (hu : ((i : Int) - (backB (leastAt c x y i j s).1).1).toNat = u) (hv : ((j : Int) - (backB (leastAt c x y i j s).1).2).toNat = v) :
    goW c x y (n + 1) i j s = (colB (leastAt c x y i j s).1 :: (goW c x y n u v (leastAt c x y i j s).2).1, (goW c x y n u v (leastAt c x y i j s).2).2) := by
  show (if s 0 = true then _ else _) = _
  rw [h, if_neg (by decide)]
  subst hu hv
  rfl
theorem Wy.start {c : Cd} {x y : List Int} {i j : Nat} {s : Nat → Bool} (h : Wk c x y i j s) : Wy c x y (goW c x y (i + j + 1) i j s).1 (goW c x y (i + j + 1) i j s).2.1 (goW c x y (i + j + 1) i j s).2.2 0 i j s :=
  ⟨h, i + j + 1, by omega, rfl⟩
theorem Wy.fin {c : Cd} {x y : List Int} {cols : List Int} {I J k i j : Nat} {s : Nat → Bool} (h : Wy c x y cols I J k i j s) (h0 : s 0 = true) : cols.length ≤ k ∧ i = I ∧ j = J := by
  obtain ⟨N, hN, he⟩ := h.rest
  obtain ⟨n, rfl⟩ : ∃ n, N = n + 1 := ⟨N - 1, by omega⟩
  rw [goW_zero c x y n i j h0] at he
  injection he with e1 e2
  injection e2 with e2 e3
  refine ⟨?_, e2, e3⟩
  have := congrArg List.length e1
  simp at this
  omega
theorem Wy.more {c : Cd} (hg : Gk c) {x y : List Int} {cols : List Int} {I J k i j : Nat} {s : Nat → Bool} (h : Wy c x y cols I J k i j s) (h0 : s 0 = false) :
    k < cols.length ∧ cols.getD k 0 = colB (leastAt c x y i j s).1 ∧ (1 ≤ (leastAt c x y i j s).1 ∧ (leastAt c x y i j s).1 ≤ 3) ∧ ∃ u v : Nat, (u : Int) = i - (backB (leastAt c x y i j s).1).1 ∧ (v : Int) = j - (backB (leastAt c x y i j s).1).2 ∧ u + v < i + j ∧ Wy c x y cols I J (k + 1) u v (leastAt c x y i j s).2 := by
  obtain ⟨hst, u, v, hu, hv, hlt, hw⟩ := h.wk.next hg h0
  obtain ⟨N, hN, he⟩ := h.rest
  obtain ⟨n, rfl⟩ : ∃ n, N = n + 1 := ⟨N - 1, by omega⟩
  rw [goW_go c x y n i j h0 (u := u) (v := v) (by omega) (by omega)] at he
  injection he with e1 e2
  have hk : k < cols.length := by
    rcases Nat.lt_or_ge k cols.length with z | z
    · exact z
    · rw [List.drop_eq_nil_of_le z] at e1; cases e1
  rw [List.drop_eq_getElem_cons hk] at e1
  injection e1 with e3 e4
  refine ⟨hk, ?_, hst, u, v, hu, hv, hlt, hw, n, by omega, ?_⟩
  · rw [List.getD_eq_getElem?_getD, List.getElem?_eq_getElem hk]
    exact e3.symm
  · exact Prod.ext e4 e2
theorem Wy.zero {c : Cd} (hg : Gk c) {x y : List Int} {cols : List Int} {I J k i j : Nat} {s : Nat → Bool} (h : Wy c x y cols I J k i j s) (hk : cols.length ≤ k) : s 0 = true ∧ i = I ∧ j = J := by
  cases h0 : s 0 with
  | true => exact ⟨rfl, (h.fin h0).2⟩
  | false => have := (h.more hg h0).1; omega
theorem Wy.going {c : Cd} {x y : List Int} {cols : List Int} {I J k i j : Nat} {s : Nat → Bool} (h : Wy c x y cols I J k i j s) (hk : k < cols.length) : s 0 = false := by
  cases h0 : s 0 with
  | false => rfl
  | true => have := (h.fin h0).1; omega
/-- How many columns take a letter of x, of y. -/
def cntB (z : Int) (l : List Int) : Int := ((l.filter fun q => q == z).length : Int)
theorem goW_ends {c : Cd} (hg : Gk c) {x y : List Int} : ∀ (N i j : Nat) (s : Nat → Bool), Wk c x y i j s → i + j < N →
    (i : Int) = (goW c x y N i j s).2.1 + cntB 77 (goW c x y N i j s).1 + cntB 68 (goW c x y N i j s).1 ∧ (j : Int) = (goW c x y N i j s).2.2 + cntB 77 (goW c x y N i j s).1 + cntB 73 (goW c x y N i j s).1 ∧
    (∀ z ∈ (goW c x y N i j s).1, z = 77 ∨ z = 68 ∨ z = 73) ∧ (goW c x y N i j s).1.length ≤ i + j
  | 0, _, _, _, _, h => by omega
  | n + 1, i, j, s, hw, h => by
    cases h0 : s 0 with
    | true => rw [goW_zero c x y n i j h0]; simp [cntB]
    | false =>
      obtain ⟨hst, u, v, hu, hv, hlt, hw2⟩ := hw.next hg h0
      rw [goW_go c x y n i j h0 (u := u) (v := v) (by omega) (by omega)]
      obtain ⟨i1, i2, i3, i4⟩ := goW_ends hg n u v _ hw2 (by omega)
      generalize goW c x y n u v (leastAt c x y i j s).2 = G at *
      generalize (leastAt c x y i j s).1 = st at *
      have hc : ∀ z w : Int, cntB z (w :: G.1) = cntB z G.1 + if w = z then 1 else 0 := fun z w => by
        unfold cntB
        rw [List.filter_cons]
        by_cases e : w = z <;> simp [e]
      have : st = 1 ∨ st = 2 ∨ st = 3 := by omega
      rcases this with e | e | e
      · subst e
        have b1 : (backB 1).1 = 1 := rfl
        have b2 : (backB 1).2 = 1 := rfl
        have b3 : colB 1 = 77 := rfl
        rw [b1] at hu; rw [b2] at hv
        rw [b3]
        simp only [hc]
        refine ⟨by simp; omega, by simp; omega, fun z hz => ?_, by simp; omega⟩
        rcases List.mem_cons.1 hz with rfl | hz
        · exact Or.inl rfl
        · exact i3 z hz
      · subst e
        have b1 : (backB 2).1 = 1 := rfl
        have b2 : (backB 2).2 = 0 := rfl
        have b3 : colB 2 = 68 := rfl
        rw [b1] at hu; rw [b2] at hv
        rw [b3]
        simp only [hc]
        refine ⟨by simp; omega, by simp; omega, fun z hz => ?_, by simp; omega⟩
        rcases List.mem_cons.1 hz with rfl | hz
        · exact Or.inr (Or.inl rfl)
        · exact i3 z hz
      · subst e
        have b1 : (backB 3).1 = 0 := rfl
        have b2 : (backB 3).2 = 1 := rfl
        have b3 : colB 3 = 73 := rfl
        rw [b1] at hu; rw [b2] at hv
        rw [b3]
        simp only [hc]
        refine ⟨by simp; omega, by simp; omega, fun z hz => ?_, by simp; omega⟩
        rcases List.mem_cons.1 hz with rfl | hz
        · exact Or.inr (Or.inr rfl)
        · exact i3 z hz
end Go.Proofs.YtnkfibahkmmnpaaGreat
