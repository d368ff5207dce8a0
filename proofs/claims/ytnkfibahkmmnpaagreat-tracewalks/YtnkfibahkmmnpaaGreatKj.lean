/-
  The walks of allLetters, of ends' meet. The walk of ends' meet: a score that is the greatest, or as great. A run in memory: its box, the table, the code and both words below.
-/
import Derived.Test.YtnkfibahkmmnpaaGreatKa
namespace Go.Proofs.YtnkfibahkmmnpaaGreat
open Go.RowKit

theorem let_bad {L : Int} {l : List Int} (k : Nat) (hk : k < l.length) (h : (decide (l.getD k 0 < 0) || decide (L ≤ l.getD k 0)) = true) : letB L l = false := by
  cases e : letB L l with
  | false => rfl
  | true =>
    unfold letB at e
    rw [List.all_eq_true] at e
    have := e (l.getD k 0) (by rw [List.getD_eq_getElem?_getD, List.getElem?_eq_getElem hk]; exact List.getElem_mem hk)
    rw [h] at this; cases this
theorem let_good {L : Int} {l : List Int} (h : ∀ j, j < l.length → (decide (l.getD j 0 < 0) || decide (L ≤ l.getD j 0)) = false) : letB L l = true := by
  unfold letB
  rw [List.all_eq_true]
  intro z hz
  obtain ⟨k, hk, rfl⟩ := List.mem_iff_getElem.1 hz
  have := h k hk
  rw [List.getD_eq_getElem?_getD, List.getElem?_eq_getElem hk] at this
  simp only [Option.getD_some] at this
  rw [this]; rfl
set_option maxHeartbeats 1000000 in
theorem allLetters_calls (L : Int) (ao : Option Addr) (len cap : Nat) (zs : List Int) (w : World) (hz : IntsAt w ao len zs) :
    Calls Tryz.prog 27 #[.int .i64 L, .slice ao len cap] w fun e w' => e = .returned (.bool (letB L zs)) ∧ w = w' := by
  have hm := hz.short
  unfold maxLen at hm
  have HZ : Hid (IntsAt w ao len zs) := hz
  clear hz
  go_enter Tryz.func27, Tryz.ntmps27
  go_wp2
  go_loop [6, 9] (fun _ i => ∃ k : Nat, k ≤ len ∧ i = .int .i64 k ∧ (∀ j, j < k → (decide (zs.getD j 0 < 0) || decide (L ≤ zs.getD j 0)) = false)) (fun _ i => len - (intOf i).toNat)
  case atStart => exact ⟨0, Nat.zero_le _, rfl, fun j hj => by omega⟩
  case round =>
    obtain ⟨k, hk, rfl, hall⟩ := hrel
    have HA : Hid (∀ j, j < k → (decide (zs.getD j 0 < 0) || decide (L ≤ zs.getD j 0)) = false) := hall
    clear hall
    by_cases hlt : k < len
    · obtain ⟨b, off, rfl, hcs⟩ := HZ.out.cells (by omega)
      have hc1 := hcs k hlt
      clear hcs
      generalize hz : zs.getD k 0 = z at hc1
      have HK : Hid (zs.getD k 0 = z) := hz
      clear hz
      by_cases h1 : z < 0
      · have d1 : decide (z < 0) = true := by simpa using h1
        have HE : Hid (letB L zs = false) := let_bad k (by rw [HZ.out.length]; exact hlt) (by rw [HK.out, d1]; rfl)
        go_wp2
        go_ret
        exact ⟨ret_bool (by rw [HE.out]), rfl⟩
      · have d1 : decide (z < 0) = false := by simpa using h1
        by_cases h2 : L ≤ z
        · have d2 : decide (L ≤ z) = true := by simpa using h2
          have HE : Hid (letB L zs = false) := let_bad k (by rw [HZ.out.length]; exact hlt) (by rw [HK.out, d1, d2]; rfl)
          go_wp2
          go_ret
          exact ⟨ret_bool (by rw [HE.out]), rfl⟩
        · have d2 : decide (L ≤ z) = false := by simpa using h2
          go_wp2
          go_round
          case rel =>
            refine ⟨k + 1, by omega, by go_num, ?_⟩
            intro j hj
            by_cases e : j = k
            · subst e; rw [HK.out, d1, d2]; rfl
            · exact HA.out j (by omega)
          case measure => simp [intOf]; omega
    · have HE : Hid (letB L zs = true) := let_good (fun j hj => HA.out j (by rw [HZ.out.length] at hj; omega))
      go_wp2
      go_ret
      exact ⟨ret_bool (by rw [HE.out]), rfl⟩
end Go.Proofs.YtnkfibahkmmnpaaGreat
namespace Go.Proofs.YtnkfibahkmmnpaaGreat
open Go.RowKit

/-- All but block g is as it was. -/
structure Bar (g : Nat) (w w' : World) : Prop where
  os : w'.os = w.os
  tape : w'.tape = w.tape
  output : w'.output = w.output
  size : w.heap.size ≤ w'.heap.size
  block : ∀ k, k < w.heap.size → k ≠ g → w'.heap[k]? = w.heap[k]?
theorem Bar.refl (g : Nat) (w : World) : Bar g w w := ⟨rfl, rfl, rfl, Nat.le_refl _, fun _ _ _ => rfl⟩
theorem Bar.set {g : Nat} {w w' : World} (h : Bar g w w') (i : Nat) (v : Value) : Bar g w (w'.setCell ⟨g, i, none⟩ v) :=
  ⟨h.os, h.tape, h.output, by simpa [World.setCell] using h.size, fun k hk hne => by rw [Below.heap_setCell _ _ _ _ hne]; exact h.block k hk hne⟩
theorem Bar.drewN {g : Nat} {w w' : World} (h : Bar g w w') (n : Nat) : Bar g w (w'.drewN n) := ⟨h.os, h.tape, h.output, h.size, h.block⟩
section
variable {w : World} {g gs P X Y : Nat} {sa : Sl} {f : Nat → Ct} {e : En} {st : Int}
theorem Tb.ne (h : Tb w g gs P X Y sa f e st) : gs ≠ g := fun e' => by have := h.box; rw [← e', h.row] at this; injection this with t1; injection t1 with _ t2; exact absurd t2 (by decide)
theorem Tb.setBox (h : Tb w g gs P X Y sa f e st) {w' : World} {e' : En} {st' : Int} (hb : w'.heap[g]? = some (.cells (tbCells P X Y gs (P * (X + 1) * (Y + 1)) sa e' st') 90 (0, 0))) (hr : w'.heap[gs]? = w.heap[gs]?) : Tb w' g gs P X Y sa f e' st' :=
  ⟨hb, by rw [hr]; exact h.row, h.few⟩
/-- A plane is one of the greatest ends'. -/
theorem Tb.plane (h : Tb w g gs P X Y sa f e st) {p : Nat} (hp : p < 10) : Tb (w.setCell ⟨g, 9 + p, none⟩ (.bool true)) g gs P X Y sa f ⟨e.found, e.score, e.i, e.j, fun k => if k = p then true else e.planes k⟩ st := by
  refine h.setBox ?_ (Below.heap_setCell _ _ _ _ h.ne)
  rw [heap_setCell_same w g (9 + p) _ 90 (.bool true) h.box]
  have : p = 0 ∨ p = 1 ∨ p = 2 ∨ p = 3 ∨ p = 4 ∨ p = 5 ∨ p = 6 ∨ p = 7 ∨ p = 8 ∨ p = 9 := by omega
  rcases this with rfl | rfl | rfl | rfl | rfl | rfl | rfl | rfl | rfl | rfl <;> rfl
def en1 (n i j : Int) : En := ⟨true, n, i, j, fun _ => false⟩
def setE (w : World) (g : Nat) (n i j : Int) : World := (World.setCell (World.setCell (World.setCell (World.setCell (World.setCell (World.setCell (World.setCell (World.setCell (World.setCell (World.setCell (World.setCell (World.setCell (World.setCell (World.setCell w ⟨g, 5, none⟩ (.bool true)) ⟨g, 6, none⟩ (.int .i64 n)) ⟨g, 7, none⟩ (.int .i64 i)) ⟨g, 8, none⟩ (.int .i64 j)) ⟨g, 9, none⟩ (.bool false)) ⟨g, 10, none⟩ (.bool false)) ⟨g, 11, none⟩ (.bool false)) ⟨g, 12, none⟩ (.bool false)) ⟨g, 13, none⟩ (.bool false)) ⟨g, 14, none⟩ (.bool false)) ⟨g, 15, none⟩ (.bool false)) ⟨g, 16, none⟩ (.bool false)) ⟨g, 17, none⟩ (.bool false)) ⟨g, 18, none⟩ (.bool false))
theorem Bar.ends {w' : World} (h : Bar g w w') (n i j : Int) : Bar g w (setE w' g n i j) := (((((((((((((h.set _ _).set _ _).set _ _).set _ _).set _ _).set _ _).set _ _).set _ _).set _ _).set _ _).set _ _).set _ _).set _ _).set _ _
theorem Tb.ends (h : Tb w g gs P X Y sa f e st) (n i j : Int) : Tb (setE w g n i j) g gs P X Y sa f (en1 n i j) st := by
  have hr : (setE w g n i j).heap[gs]? = w.heap[gs]? := (Bar.refl g w |>.ends n i j).block gs (lt_block h.row) h.ne
  refine h.setBox ?_ hr
  have h0 := h.box
  have h1 := heap_setCell_same _ g 5 _ 90 (.bool true) h0
  have h2 := heap_setCell_same _ g 6 _ 90 (.int .i64 n) h1
  have h3 := heap_setCell_same _ g 7 _ 90 (.int .i64 i) h2
  have h4 := heap_setCell_same _ g 8 _ 90 (.int .i64 j) h3
  have h5 := heap_setCell_same _ g 9 _ 90 (.bool false) h4
  have h6 := heap_setCell_same _ g 10 _ 90 (.bool false) h5
  have h7 := heap_setCell_same _ g 11 _ 90 (.bool false) h6
  have h8 := heap_setCell_same _ g 12 _ 90 (.bool false) h7
  have h9 := heap_setCell_same _ g 13 _ 90 (.bool false) h8
  have h10 := heap_setCell_same _ g 14 _ 90 (.bool false) h9
  have h11 := heap_setCell_same _ g 15 _ 90 (.bool false) h10
  have h12 := heap_setCell_same _ g 16 _ 90 (.bool false) h11
  have h13 := heap_setCell_same _ g 17 _ 90 (.bool false) h12
  have h14 := heap_setCell_same _ g 18 _ 90 (.bool false) h13
  unfold setE
  rw [h14]
  simp only [tbCells, List.setIfInBounds_toArray, List.set_cons_succ, List.set_cons_zero]
  rfl
set_option maxRecDepth 10000 in
set_option maxHeartbeats 2000000 in
theorem emeet_new (h : Tb w g gs P X Y sa f e st) (p : Nat) (i j n : Int) (hp : p < 10) (ha : (!e.found || decide (e.score < n)) = true) :
    Calls Tryz.prog 88 #[.pointer (some ⟨g, 5, none⟩), .int .i64 p, .int .i64 i, .int .i64 j, .int .i64 n] w fun e' w' => e' = .returned (.tuple #[]) ∧ Tb w' g gs P X Y sa f (endB e p i j n) st ∧ Bar g w w' := by
  have HE : Hid (endB e p i j n = ⟨true, n, i, j, fun k => if k = p then true else false⟩) := by show _ = _; simp only [endB]; rw [if_pos ha]; simp
  have HT : Hid (Tb ((setE w g n i j).setCell ⟨g, 9 + p, none⟩ (.bool true)) g gs P X Y sa f ⟨true, n, i, j, fun k => if k = p then true else false⟩ st) := (h.ends n i j).plane hp
  have HB : Hid (Bar g w ((setE w g n i j).setCell ⟨g, 9 + p, none⟩ (.bool true))) := ((Bar.refl g w).ends n i j).set _ _
  have x0 := (h.ends n i j).fz (9 + p)
  obtain ⟨xv, x1⟩ : ∃ xv, (setE w g n i j).cell? ⟨g, 9 + p, none⟩ = some (.bool xv) := by
    refine ⟨false, (h.ends n i j).cell (9 + p) ?_⟩
    have : p = 0 ∨ p = 1 ∨ p = 2 ∨ p = 3 ∨ p = 4 ∨ p = 5 ∨ p = 6 ∨ p = 7 ∨ p = 8 ∨ p = 9 := by omega
    rcases this with rfl | rfl | rfl | rfl | rfl | rfl | rfl | rfl | rfl | rfl <;> rfl
  unfold setE at x0 x1
  have c5 := h.cell 5 (v := .bool e.found) rfl
  have c6 := h.cell 6 (v := .int .i64 e.score) rfl
  have c7 := h.cell 7 (v := .int .i64 e.i) rfl
  have c8 := h.cell 8 (v := .int .i64 e.j) rfl
  have c9 := h.cell 9 (v := .bool (e.planes 0)) rfl
  have c10 := h.cell 10 (v := .bool (e.planes 1)) rfl
  have c11 := h.cell 11 (v := .bool (e.planes 2)) rfl
  have c12 := h.cell 12 (v := .bool (e.planes 3)) rfl
  have c13 := h.cell 13 (v := .bool (e.planes 4)) rfl
  have c14 := h.cell 14 (v := .bool (e.planes 5)) rfl
  have c15 := h.cell 15 (v := .bool (e.planes 6)) rfl
  have c16 := h.cell 16 (v := .bool (e.planes 7)) rfl
  have c17 := h.cell 17 (v := .bool (e.planes 8)) rfl
  have c18 := h.cell 18 (v := .bool (e.planes 9)) rfl
  have f5 := h.fz 5
  have f6 := h.fz 6
  have f7 := h.fz 7
  have f8 := h.fz 8
  have f9 := h.fz 9
  have f10 := h.fz 10
  have f11 := h.fz 11
  have f12 := h.fz 12
  have f13 := h.fz 13
  have f14 := h.fz 14
  have f15 := h.fz 15
  have f16 := h.fz 16
  have f17 := h.fz 17
  have f18 := h.fz 18
  clear h
  cases hf : e.found with
  | false =>
    rw [hf] at c5
    go_enter Tryz.func88, Tryz.ntmps88
    go_wp2
    go_end0
    rw [HE.out]
    exact ⟨rfl, HT.out, HB.out⟩
  | true =>
    have hs : e.score < n := by rw [hf] at ha; simpa using ha
    rw [hf] at c5
    go_enter Tryz.func88, Tryz.ntmps88
    go_wp2
    go_end0
    rw [HE.out]
    exact ⟨rfl, HT.out, HB.out⟩
set_option maxRecDepth 10000 in
set_option maxHeartbeats 2000000 in
theorem emeet_old (h : Tb w g gs P X Y sa f e st) (p : Nat) (i j n : Int) (hp : p < 10) (ha : (!e.found || decide (e.score < n)) = false) :
    Calls Tryz.prog 88 #[.pointer (some ⟨g, 5, none⟩), .int .i64 p, .int .i64 i, .int .i64 j, .int .i64 n] w fun e' w' => e' = .returned (.tuple #[]) ∧ Tb w' g gs P X Y sa f (endB e p i j n) st ∧ Bar g w w' := by
  have hf : e.found = true := by cases hh : e.found <;> simp_all
  have hs : ¬ e.score < n := by simp [hf] at ha; omega
  have HE : Hid (endB e p i j n = if e.score = n ∧ e.i = i ∧ e.j = j then ⟨e.found, e.score, e.i, e.j, fun k => if k = p then true else e.planes k⟩ else e) := by show _ = _; simp only [endB, ha, Bool.false_eq_true, if_false]
  have HT : Hid (Tb (w.setCell ⟨g, 9 + p, none⟩ (.bool true)) g gs P X Y sa f ⟨e.found, e.score, e.i, e.j, fun k => if k = p then true else e.planes k⟩ st) := h.plane hp
  have HB : Hid (Bar g w (w.setCell ⟨g, 9 + p, none⟩ (.bool true))) := (Bar.refl g w).set _ _
  have H0 : Hid (Tb w g gs P X Y sa f e st) := h
  have x0 := h.fz (9 + p)
  obtain ⟨xv, x1⟩ : ∃ xv, w.cell? ⟨g, 9 + p, none⟩ = some (.bool xv) := by
    refine ⟨e.planes p, h.cell (9 + p) ?_⟩
    have : p = 0 ∨ p = 1 ∨ p = 2 ∨ p = 3 ∨ p = 4 ∨ p = 5 ∨ p = 6 ∨ p = 7 ∨ p = 8 ∨ p = 9 := by omega
    rcases this with rfl | rfl | rfl | rfl | rfl | rfl | rfl | rfl | rfl | rfl <;> rfl
  have c5 := h.cell 5 (v := .bool e.found) rfl
  have c6 := h.cell 6 (v := .int .i64 e.score) rfl
  have c7 := h.cell 7 (v := .int .i64 e.i) rfl
  have c8 := h.cell 8 (v := .int .i64 e.j) rfl
  rw [hf] at c5
  clear h
  by_cases h1 : e.score = n
  · have b1 : (e.score == n) = true := by simpa using h1
    by_cases h2 : e.i = i
    · have b2 : (e.i == i) = true := by simpa using h2
      by_cases h3 : e.j = j
      · have b3 : (e.j == j) = true := by simpa using h3
        have HF : Hid (endB e p i j n = ⟨e.found, e.score, e.i, e.j, fun k => if k = p then true else e.planes k⟩) := by show _ = _; rw [HE.out, if_pos ⟨h1, h2, h3⟩]
        clear h1 h2 h3 HE ha
        go_enter Tryz.func88, Tryz.ntmps88
        go_wp2
        go_end0
        rw [HF.out]
        exact ⟨rfl, HT.out, HB.out⟩
      · have b3 : (e.j == j) = false := by simpa using h3
        have HF : Hid (endB e p i j n = e) := by show _ = _; rw [HE.out, if_neg (fun t => h3 t.2.2)]
        clear h1 h2 h3 HE ha
        go_enter Tryz.func88, Tryz.ntmps88
        go_wp2
        go_end0
        rw [HF.out]
        exact ⟨rfl, H0.out, Bar.refl _ _⟩
    · have b2 : (e.i == i) = false := by simpa using h2
      have HF : Hid (endB e p i j n = e) := by show _ = _; rw [HE.out, if_neg (fun t => h2 t.2.1)]
      clear h1 h2 HE ha
      go_enter Tryz.func88, Tryz.ntmps88
      go_wp2
      go_end0
      rw [HF.out]
      exact ⟨rfl, H0.out, Bar.refl _ _⟩
  · have b1 : (e.score == n) = false := by simpa using h1
    have HF : Hid (endB e p i j n = e) := by show _ = _; rw [HE.out, if_neg (fun t => h1 t.1)]
    clear h1 HE ha
    go_enter Tryz.func88, Tryz.ntmps88
    go_wp2
    go_end0
    rw [HF.out]
    exact ⟨rfl, H0.out, Bar.refl _ _⟩
theorem emeet_calls (h : Tb w g gs P X Y sa f e st) (p : Nat) (i j n : Int) (hp : p < 10) :
    Calls Tryz.prog 88 #[.pointer (some ⟨g, 5, none⟩), .int .i64 p, .int .i64 i, .int .i64 j, .int .i64 n] w fun e' w' => e' = .returned (.tuple #[]) ∧ Tb w' g gs P X Y sa f (endB e p i j n) st ∧ Bar g w w' := by
  cases ha : (!e.found || decide (e.score < n)) with
  | true => exact emeet_new h p i j n hp ha
  | false => exact emeet_old h p i j n hp ha
end
end Go.Proofs.YtnkfibahkmmnpaaGreat
namespace Go.Proofs.YtnkfibahkmmnpaaGreat
open Go.RowKit

def rnF (g : Nat) (c : Cd) (s : Ls) (sx sy : Sl) (i j : Nat) (R : Nat → Ct) (k : Nat) : Value :=
  if k = 0 then .pointer (some ⟨g, 0, none⟩) else if k < 11 then (cdCells c s).getD (k - 1) undef
  else if k = 11 then .slice sx.a sx.n sx.c else if k = 12 then .slice sy.a sy.n sy.c else if k = 13 then .int .i64 i else if k = 14 then .int .i64 j
  else ctCell (R ((k - 15) / 3)) ((k - 15) % 3)
def rnCells (g : Nat) (c : Cd) (s : Ls) (sx sy : Sl) (i j : Nat) (R : Nat → Ct) : Array Value := Array.ofFn (n := 63) fun k => rnF g c s sx sy i j R k.val
section
variable {g : Nat} {c : Cd} {s : Ls} {sx sy : Sl} {i j : Nat} {R : Nat → Ct}
theorem rn_size : (rnCells g c s sx sy i j R).size = 63 := by simp [rnCells]
theorem rn_get {k : Nat} (h : k < 63) : (rnCells g c s sx sy i j R)[k]? = some (rnF g c s sx sy i j R k) := by simp [rnCells, h]
theorem rn_reg (k m : Nat) (hm : m < 3) : rnF g c s sx sy i j R (15 + k * 3 + m) = ctCell (R k) m := by
  unfold rnF
  rw [if_neg (by omega), if_neg (by omega), if_neg (by omega), if_neg (by omega), if_neg (by omega), if_neg (by omega), show (15 + k * 3 + m - 15) / 3 = k by omega, show (15 + k * 3 + m - 15) % 3 = m by omega]
theorem rn_low {R' : Nat → Ct} {k : Nat} (h : k < 15) : rnF g c s sx sy i j R k = rnF g c s sx sy i j R' k := by
  unfold rnF
  by_cases h0 : k = 0
  · rw [if_pos h0, if_pos h0]
  by_cases h1 : k < 11
  · rw [if_neg h0, if_pos h1, if_neg h0, if_pos h1]
  by_cases h2 : k = 11
  · rw [if_neg h0, if_neg h1, if_pos h2, if_neg h0, if_neg h1, if_pos h2]
  by_cases h3 : k = 12
  · rw [if_neg h0, if_neg h1, if_neg h2, if_pos h3, if_neg h0, if_neg h1, if_neg h2, if_pos h3]
  by_cases h4 : k = 13
  · rw [if_neg h0, if_neg h1, if_neg h2, if_neg h3, if_pos h4, if_neg h0, if_neg h1, if_neg h2, if_neg h3, if_pos h4]
  have h5 : k = 14 := by omega
  rw [if_neg h0, if_neg h1, if_neg h2, if_neg h3, if_neg h4, if_pos h5, if_neg h0, if_neg h1, if_neg h2, if_neg h3, if_neg h4, if_pos h5]
/-- A register is written, three cells. -/
theorem rn_set (k : Nat) (x : Ct) : (((rnCells g c s sx sy i j R).setIfInBounds (15 + k * 3) (ctCell x 0)).setIfInBounds (15 + k * 3 + 1) (ctCell x 1)).setIfInBounds (15 + k * 3 + 2) (ctCell x 2) = rnCells g c s sx sy i j (updC R k x) := by
  apply Array.ext_getElem?
  intro q
  by_cases hq : q < 63
  · rw [rn_get hq]
    simp only [Array.getElem?_setIfInBounds, Array.size_setIfInBounds, rn_size, rn_get hq]
    by_cases h15 : q < 15
    · rw [if_neg (by omega), if_neg (by omega), if_neg (by omega), rn_low h15]
    · obtain ⟨k', m, hm, rfl⟩ : ∃ k' m, m < 3 ∧ q = 15 + k' * 3 + m := ⟨(q - 15) / 3, (q - 15) % 3, by omega, by omega⟩
      rw [rn_reg k' m hm, rn_reg k' m hm]
      by_cases ek : k' = k
      · subst ek
        rw [updC_same]
        have : m = 0 ∨ m = 1 ∨ m = 2 := by omega
        rcases this with rfl | rfl | rfl
        · simp; omega
        · simp; omega
        · simp; omega
      · rw [updC_ne _ _ ek, if_neg (by omega), if_neg (by omega), if_neg (by omega)]
  · rw [Array.getElem?_eq_none (by simp [rn_size]; omega), Array.getElem?_eq_none (by rw [rn_size]; omega)]
end
/-- A run at b: its table at g, the slots at gs. -/
def actsV : Array Value := #[.nilFunc, .func (.func 54) #[] #[], .func (.func 55) #[] #[], .func (.func 56) #[] #[], .func (.func 57) #[] #[], .func (.func 58) #[] #[], .func (.func 59) #[] #[], .func (.func 60) #[] #[], .func (.func 61) #[] #[]]
structure Rn (dq : Nat → Option (Array Value × Nat)) (w0 w : World) (b g gs : Nat) (c : Cd) (s : Ls) (sx sy sa : Sl) (x y : List Int) (i j : Nat) (M : Ms) : Prop where
  box : w.heap[b]? = some (.cells (rnCells g c s sx sy i j M.regs) 53 (0, 0))
  tb : Tb w g gs c.planes.toNat x.length y.length sa M.slots M.ends M.steps
  cd : CdAt w0 c s
  hx : IntsAt w0 sx.a sx.n x
  hy : IntsAt w0 sy.a sy.n y
  low : Below w0.heap.size w0 w
  le : w0.heap.size ≤ b ∧ w0.heap.size ≤ g ∧ w0.heap.size ≤ gs
  ds : ∀ t cs ty, dq t = some (cs, ty) → w.heap[t]? = some (.cells cs ty (0, 0)) ∧ ty ≠ 53 ∧ ty ≠ 90 ∧ ty ≠ 50
section
variable {dq : Nat → Option (Array Value × Nat)} {w0 w w2 : World} {b g gs : Nat} {c : Cd} {s : Ls} {sx sy sa : Sl} {x y : List Int} {i j : Nat} {M : Ms}
theorem Rn.lt (h : Rn dq w0 w b g gs c s sx sy sa x y i j M) : b < w.heap.size ∧ g < w.heap.size ∧ gs < w.heap.size := ⟨lt_block h.box, lt_block h.tb.box, lt_block h.tb.row⟩
theorem Rn.next (h : Rn dq w0 w b g gs c s sx sy sa x y i j M) (hb : Below w.heap.size w w2) : Rn dq w0 w2 b g gs c s sx sy sa x y i j M :=
  ⟨by rw [hb.block _ h.lt.1]; exact h.box, h.tb.next hb, h.cd, h.hx, h.hy, h.low.trans (hb.mono h.low.size), h.le, fun t cs ty ht => by rw [hb.block _ (lt_block (h.ds t cs ty ht).1)]; exact h.ds t cs ty ht⟩
theorem Rn.drew (h : Rn dq w0 w b g gs c s sx sy sa x y i j M) : Rn dq w0 w.drew b g gs c s sx sy sa x y i j M := ⟨h.box, h.tb.drew, h.cd, h.hx, h.hy, h.low.drew, h.le, h.ds⟩
theorem Rn.cell (h : Rn dq w0 w b g gs c s sx sy sa x y i j M) (k : Nat) (hk : k < 63) {v : Value} (hv : rnF g c s sx sy i j M.regs k = v) : w.cell? ⟨b, k, none⟩ = some v := by
  rw [cell_block h.box k _ (rn_get hk), hv]
theorem Rn.reg (h : Rn dq w0 w b g gs c s sx sy sa x y i j M) {k m : Nat} (hk : k < 16) (hm : m < 3) : w.cell? ⟨b, 15 + k * 3 + m, none⟩ = some (ctCell (M.regs k) m) := h.cell _ (by omega) (rn_reg k m hm)
theorem Rn.fz (h : Rn dq w0 w b g gs c s sx sy sa x y i j M) (k : Nat) : w.frozen? ⟨b, k, none⟩ = false := frozen_of_row w b k _ _ h.box
theorem Rn.bg (h : Rn dq w0 w b g gs c s sx sy sa x y i j M) : b ≠ g := fun e' => by have := h.box; rw [e', h.tb.box] at this; injection this with t1; injection t1 with _ t2; exact absurd t2 (by decide)
theorem Rn.bs (h : Rn dq w0 w b g gs c s sx sy sa x y i j M) : b ≠ gs := fun e' => by have := h.box; rw [e', h.tb.row] at this; injection this with t1; injection t1 with _ t2; exact absurd t2 (by decide)
theorem Rn.db (h : Rn dq w0 w b g gs c s sx sy sa x y i j M) {t ty : Nat} {cs : Array Value} (ht : dq t = some (cs, ty)) : t ≠ b ∧ t ≠ g ∧ t ≠ gs := by
  obtain ⟨h1, h2, h3, h4⟩ := h.ds t cs ty ht
  exact ⟨fun e' => by rw [e', h.box] at h1; injection h1 with t1; injection t1 with _ t2; exact h2 t2.symm, fun e' => by rw [e', h.tb.box] at h1; injection h1 with t1; injection t1 with _ t2; exact h3 t2.symm, fun e' => by rw [e', h.tb.row] at h1; injection h1 with t1; injection t1 with _ t2; exact h4 t2.symm⟩
/-- A register is written. -/
def rgW (w : World) (b k : Nat) (x : Ct) : World := ((w.setCell ⟨b, 15 + k * 3, none⟩ (.bool x.has)).setCell ⟨b, 15 + k * 3 + 1, none⟩ (.int .u16 x.mask)).setCell ⟨b, 15 + k * 3 + 2, none⟩ (.int .i64 x.num)
theorem Rn.putR (h : Rn dq w0 w b g gs c s sx sy sa x y i j M) (k : Nat) (v : Ct) : Rn dq w0 (rgW w b k v) b g gs c s sx sy sa x y i j { M with regs := updC M.regs k v } := by
  have r0 := heap_setCell_same w b (15 + k * 3) _ 53 (.bool v.has) h.box
  have r1 := heap_setCell_same _ b (15 + k * 3 + 1) _ 53 (.int .u16 v.mask) r0
  have r2 := heap_setCell_same _ b (15 + k * 3 + 2) _ 53 (.int .i64 v.num) r1
  refine ⟨?_, ⟨?_, ?_, h.tb.few⟩, h.cd, h.hx, h.hy, ?_, h.le, fun t cs ty ht => by unfold rgW; rw [Below.heap_setCell _ _ _ _ (h.db ht).1, Below.heap_setCell _ _ _ _ (h.db ht).1, Below.heap_setCell _ _ _ _ (h.db ht).1]; exact h.ds t cs ty ht⟩
  · unfold rgW
    rw [r2]
    have := rn_set (g := g) (c := c) (s := s) (sx := sx) (sy := sy) (i := i) (j := j) (R := M.regs) k v
    rw [← this]; rfl
  · unfold rgW
    rw [Below.heap_setCell _ _ _ _ h.bg.symm, Below.heap_setCell _ _ _ _ h.bg.symm, Below.heap_setCell _ _ _ _ h.bg.symm]; exact h.tb.box
  · unfold rgW
    rw [Below.heap_setCell _ _ _ _ h.bs.symm, Below.heap_setCell _ _ _ _ h.bs.symm, Below.heap_setCell _ _ _ _ h.bs.symm]; exact h.tb.row
  · exact ((h.low.setCell (p := ⟨b, _, none⟩) h.le.1 _).setCell (p := ⟨b, _, none⟩) h.le.1 _).setCell (p := ⟨b, _, none⟩) h.le.1 _
/-- A slot is kept. -/
theorem Rn.putS (h : Rn dq w0 w b g gs c s sx sy sa x y i j M) (k : Nat) (v : Ct) : Rn dq w0 (keptW w gs k v) b g gs c s sx sy sa x y i j { M with slots := updC M.slots k v } :=
  ⟨by unfold keptW; rw [Below.heap_setCell _ _ _ _ h.bs, Below.heap_setCell _ _ _ _ h.bs, Below.heap_setCell _ _ _ _ h.bs]; exact h.box, h.tb.keep k v.has v.mask v.num, h.cd, h.hx, h.hy,
   ((h.low.setCell (p := ⟨gs, _, none⟩) h.le.2.2 _).setCell (p := ⟨gs, _, none⟩) h.le.2.2 _).setCell (p := ⟨gs, _, none⟩) h.le.2.2 _, h.le, fun t cs ty ht => by unfold keptW; rw [Below.heap_setCell _ _ _ _ (h.db ht).2.2, Below.heap_setCell _ _ _ _ (h.db ht).2.2, Below.heap_setCell _ _ _ _ (h.db ht).2.2]; exact h.ds t cs ty ht⟩
/-- The table's box is written alone. -/
theorem Rn.bar (h : Rn dq w0 w b g gs c s sx sy sa x y i j M) {e : En} {st : Int} (hb : Bar g w w2) (ht : Tb w2 g gs c.planes.toNat x.length y.length sa M.slots e st) : Rn dq w0 w2 b g gs c s sx sy sa x y i j { M with ends := e, steps := st } :=
  ⟨by rw [hb.block _ h.lt.1 h.bg]; exact h.box, ht, h.cd, h.hx, h.hy, ⟨hb.os.trans h.low.os, hb.tape.trans h.low.tape, hb.output.trans h.low.output, Nat.le_trans h.low.size hb.size, fun k hk => by
    have hg := h.le.2.1
    have hz := h.low.size
    rw [hb.block k (by omega) (by omega)]; exact h.low.block k hk⟩, h.le, fun t cs ty ht => by rw [hb.block _ (lt_block (h.ds t cs ty ht).1) (h.db ht).2.1]; exact h.ds t cs ty ht⟩
end
end Go.Proofs.YtnkfibahkmmnpaaGreat
