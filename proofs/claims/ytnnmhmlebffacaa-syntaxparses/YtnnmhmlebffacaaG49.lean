/-
  All that a tree has is turned: spoil. Two trees that are the same, places too.
-/
import Derived.Test.YtnnmhmlebffacaaG28
import Derived.Test.YtnnmhmlebffacaaG48
namespace Go.Proofs.Ytnnmhmlebffacaa
open Go.RowKit Go.Deep

theorem foB_keep35 {S : Nat → Prop} {w w' : World} (hk : ∀ (g : Nat) (cs : Array Value), w.heap[g]? = some (Obj.cells cs 35 (0, 0)) → w'.heap[g]? = w.heap[g]?) : ∀ (d : Nat) (ao : Option Addr) (n : Nat), FoB S d w ao n → FoB S d w' ao n
  | 0, _, _, h => h
  | d + 1, ao, n, h => fun i hi => by
    obtain ⟨g, off, h', ka, kn, kc, e, q1, q2, ⟨cs, q3⟩, q4, q5, q6⟩ := h i hi
    have he := hk g cs q3
    exact ⟨g, off, h', ka, kn, kc, e, q1, q2, ⟨cs, by rw [he]; exact q3⟩, q4, q5.of_heap he, foB_keep35 hk d ka kn q6⟩
/-- One item of a list, its expressions of at most so many levels. -/
def ItE (S : Nat → Prop) (D : Nat) (ao : Option Addr) (w : World) (i : Nat) : Prop :=
  ∃ g off it ka kn kc cs, ao = some ⟨g, off, none⟩ ∧ S g ∧ w.heap[g]? = some (.cells cs 42 (0, 0)) ∧ kn ≤ maxLen ∧ CellsAt w g (off + i * 4) (itCells it ka kn kc) ∧ FoB S D w ka kn
theorem itE_of {S : Nat → Prop} {w : World} {D : Nat} : ∀ (L : List It) (ao : Option Addr) (n : Nat), ItsAt true S w L ao n → (∀ it ∈ L, depF it.args ≤ D) → ∀ i, i < n → ItE S D ao w i
  | [], ao, n, h, _, i, hi => by have h0 : n = 0 := h; omega
  | it :: r, ao, n, h, hD, i, hi => by
    obtain ⟨g, off, ka, kn, kc, m, hn, ha, hS, ho, hok, hkn, hc, hk, hr⟩ := h
    cases i with
    | zero =>
      obtain ⟨cs, h2⟩ := (ho rfl).2
      exact ⟨g, off, it, ka, kn, kc, cs, ha, hS, h2, hkn, by rw [Nat.zero_mul, Nat.add_zero]; exact hc, foB_of _ _ _ _ (hD it (by simp)) hk⟩
    | succ i =>
      obtain ⟨g2, off2, it', ka', kn', kc', cs, e, q1, q2, q3, q4, q5⟩ := itE_of r _ m hr (fun x hx => hD x (by simp [hx])) i (by omega)
      cases e
      refine ⟨g, off, it', ka', kn', kc', cs, ha, q1, q2, q3, ?_, q5⟩
      rw [show off + (i + 1) * 4 = off + 4 + i * 4 by omega]; exact q4
theorem dep_all : ∀ (L : List It), ∃ D, ∀ it ∈ L, depF it.args ≤ D
  | [] => ⟨0, fun _ h => by cases h⟩
  | it :: r => by
    obtain ⟨D, h⟩ := dep_all r
    refine ⟨max D (depF it.args), fun x hx => ?_⟩
    rcases List.mem_cons.1 hx with rfl | hx
    · omega
    · have := h x hx; omega
/-- Blocks of a set alone are changed. -/
structure Sq (S : Nat → Prop) (w w' : World) : Prop where
  os : w'.os = w.os
  tape : w'.tape = w.tape
  output : w'.output = w.output
  size : w.heap.size ≤ w'.heap.size
  block : ∀ g, g < w.heap.size → ¬ S g → w'.heap[g]? = w.heap[g]?
theorem Sq.trans {S : Nat → Prop} {w w1 w2 : World} (h : Sq S w w1) (k : Sq S w1 w2) : Sq S w w2 :=
  ⟨k.os.trans h.os, k.tape.trans h.tape, k.output.trans h.output, Nat.le_trans h.size k.size, fun g hg hn => (k.block g (Nat.lt_of_lt_of_le hg h.size) hn).trans (h.block g hg hn)⟩
theorem Sp.sq {S : Nat → Prop} {w w' : World} (h : Sp S w w') : Sq S w w' := ⟨h.os, h.tape, h.output, h.size, h.block⟩
theorem ItE.sp {S : Nat → Prop} {D : Nat} {ao : Option Addr} {w w' : World} {i : Nat} (h : ItE S D ao w i) (hs : Sp S w w') : ItE S D ao w' i := by
  obtain ⟨g, off, it, ka, kn, kc, cs, q0, q1, q2, q3, q4, q5⟩ := h
  have h2 := hs.other g cs 42 _ q2 (by decide)
  exact ⟨g, off, it, ka, kn, kc, cs, q0, q1, h2, q3, q4.of_heap (by rw [h2, q2]), hs.fob _ _ _ q5⟩
/-- Four cells of a block of items are set. -/
theorem item_set {S : Nat → Prop} {w w' : World} {g off i D : Nat} {cs : Array Value} (hS : S g) (hg : w.heap[g]? = some (.cells cs 42 (0, 0)))
    (hW : w' = (((w.setCell ⟨g, off + i * 4, none⟩ (.int .i64 (-7))).setCell ⟨g, off + i * 4 + 1, none⟩ (.string ⟨#[]⟩)).setCell ⟨g, off + i * 4 + 2, none⟩ (.slice none 0 0)).setCell ⟨g, off + i * 4 + 3, none⟩ (.int .i64 0)) : Sq S w w' ∧ ∀ j, i < j → ItE S D (some ⟨g, off, none⟩) w j → ItE S D (some ⟨g, off, none⟩) w' j := by
  have v1 := heap_put (i := off + i * 4) (u := .int .i64 (-7)) hg rfl
  have v2 := heap_put (i := off + i * 4 + 1) (u := .string ⟨#[]⟩) v1 rfl
  have v3 := heap_put (i := off + i * 4 + 2) (u := .slice none 0 0) v2 rfl
  have v4 := heap_put (i := off + i * 4 + 3) (u := .int .i64 0) v3 rfl
  rw [← hW] at v4
  have hoth : ∀ x, x ≠ g → w'.heap[x]? = w.heap[x]? := fun x hx => by
    rw [hW]; exact heap_other (heap_other (heap_other (heap_other rfl hx) hx) hx) hx
  have hK : Kp g w w' := by
    rw [hW]
    exact ((((Kp.refl g w).setCell (off + i * 4) _).setCell (off + i * 4 + 1) _).setCell (off + i * 4 + 2) _).setCell (off + i * 4 + 3) _
  refine ⟨⟨hK.os, hK.tape, hK.output, hK.size, fun x _ hn => hoth x (fun e => hn (e ▸ hS))⟩, fun j hj h => ?_⟩
  obtain ⟨g2, off2, it, ka, kn, kc, c2, q0, q1, q2, q3, q4, q5⟩ := h
  cases q0
  rw [hg] at q2
  cases q2
  refine ⟨g, off, it, ka, kn, kc, _, rfl, hS, v4, q3, fun x u hx => ?_, foB_keep35 (fun x c3 h3 => hoth x (fun e => by rw [e, hg] at h3; cases h3)) _ _ _ q5⟩
  have h1 := q4 x u hx
  rw [cell_of_row w g _ cs 42 (0, 0) hg] at h1
  rw [cell_of_row w' g _ _ 42 (0, 0) v4]
  simp only [Array.getElem?_setIfInBounds]
  rw [if_neg (by omega), if_neg (by omega), if_neg (by omega), if_neg (by omega)]
  exact h1
set_option maxRecDepth 20000 in
set_option maxHeartbeats 4000000 in
theorem spoil_calls {S : Nat → Prop} (L : List It) (ao : Option Addr) (n c : Nat) (w : World) (h : ItsAt true S w L ao n) (hn : n ≤ 4002) (hS : ∀ g, S g → g < w.heap.size) :
    Calls Try.prog 12 #[.agg #[.slice ao n c]] w fun e w' => e = .returned (.tuple #[]) ∧ Sq S w w' := by
  obtain ⟨D, hD⟩ := dep_all L
  have hbx : Below w.heap.size w (w.alloc (.cells #[.slice ao n c] 24)) := (Below.refl _ _).alloc (Nat.le_refl _) _
  have HS : Hid (∀ g, S g → g < w.heap.size) := hS
  have HI0 : Hid (Sq S w (w.alloc (.cells #[.slice ao n c] 24)) ∧ (w.alloc (.cells #[.slice ao n c] 24)).heap[w.heap.size]? = some (.cells #[.slice ao n c] 24 (0, 0)) ∧ ∀ j, 0 ≤ j → j < n → ItE S D ao (w.alloc (.cells #[.slice ao n c] 24)) j) :=
    ⟨(Sp.of_below hbx).sq, heap_alloc_new w _, fun j _ hj => (itE_of L ao n h hD j hj).sp (Sp.of_below hbx)⟩
  clear hbx h hD hS
  go_enter Try.func12, Try.ntmps12
  go_wp2_with fail
  go_loopg [2] n (fun k iv wr => ∃ (i : Nat), iv = .int .i64 (i : Int) ∧ i + k = n ∧ Hid (Sq S w wr ∧ wr.heap[w.heap.size]? = some (.cells #[.slice ao n c] 24 (0, 0)) ∧ ∀ j, i ≤ j → j < n → ItE S D ao wr j))
  case atStart => exact ⟨0, rfl, by omega, HI0.out⟩
  case round =>
    clear HI0
    obtain ⟨i, rfl, hik, HT⟩ := hrel
    generalize wr = wo at *
    generalize gk = go at *
    have bx := blk (i := 0) HT.out.2.1 rfl
    by_cases hi : i < n
    · have hdi : decide ((i : Int) < (n : Int)) = true := by simp; omega
      obtain ⟨g, off, it, ka, kn, kc, cs, hao, hSg, hcs, hkn, hcl, hF⟩ := HT.out.2.2 i (Nat.le_refl _) hi
      subst hao
      unfold maxLen at hkn
      have HI : Hid (S g ∧ wo.heap[g]? = some (.cells cs 42 (0, 0)) ∧ CellsAt wo g (off + i * 4) (itCells it ka kn kc) ∧ FoB S D wo ka kn ∧ ∀ x, S x → x < wo.heap.size) := ⟨hSg, hcs, hcl, hF, fun x hx => Nat.lt_of_lt_of_le (HS.out x hx) HT.out.1.size⟩
      clear hSg hcs hcl hF
      go_wp2_with fail
      go_loopg [3] kn (fun k jv ws => ∃ (j : Nat), jv = .int .i64 (j : Int) ∧ j + k = kn ∧ Hid (Sp S wo ws))
      case atStart => exact ⟨0, rfl, by omega, Sp.refl _ _⟩
      case round =>
        obtain ⟨j, rfl, hjk, HB⟩ := hrel
        have hx1 : wr.heap[w.heap.size]? = some (.cells #[.slice (some ⟨g, off, none⟩) n c] 24 (0, 0)) := HB.out.other _ _ _ _ HT.out.2.1 (by decide)
        have hx2 : wr.heap[g]? = some (.cells cs 42 (0, 0)) := HB.out.other _ _ _ _ HI.out.2.1 (by decide)
        have hx3 : CellsAt wr g (off + i * 4) (itCells it ka kn kc) := HI.out.2.2.1.of_heap (by rw [hx2, HI.out.2.1])
        have bx1 := blk (i := 0) hx1 rfl
        have i2 : wr.cell? ⟨g, off + i * 4 + 2, none⟩ = _ := hx3 2 _ rfl
        by_cases hj : j < kn
        · have hdj : decide ((j : Int) < (kn : Int)) = true := by simp; omega
          obtain ⟨g5, off5, h2, k2, n2, c2, hka2, hSg, h5, -, hcl, hcall⟩ := el_of HI.out.2.2.2.1 HI.out.2.2.2.2 HB.out j hj
          subst hka2
          have c0 : wr.cell? ⟨g5, off5 + j * 5, none⟩ = _ := hcl 0 _ rfl
          have c1 : wr.cell? ⟨g5, off5 + j * 5 + 1, none⟩ = _ := hcl 1 _ rfl
          have c2' : wr.cell? ⟨g5, off5 + j * 5 + 2, none⟩ = _ := hcl 2 _ rfl
          have c3 : wr.cell? ⟨g5, off5 + j * 5 + 3, none⟩ = _ := hcl 3 _ rfl
          have c4 : wr.cell? ⟨g5, off5 + j * 5 + 4, none⟩ = _ := hcl 4 _ rfl
          have HC : Hid (Calls Try.prog 30 #[.agg #[.int .i64 h2.kind, .int .i64 h2.num, .string (bs h2.text), .slice k2 n2 c2, .int .i64 h2.pl]] wr fun e' w' => e' = .returned (.tuple #[]) ∧ Sp S wr w') := hcall
          clear hcl hcall hSg h5 hx1 hx2 hx3
          go_wp2_with fail
          refine HC.out.mono ?_
          rintro e' w3 ⟨rfl, hb3⟩
          have h3 : Sp S wo w3 := HB.out.trans hb3
          have hy1 : w3.heap[w.heap.size]? = some (.cells #[.slice (some ⟨g, off, none⟩) n c] 24 (0, 0)) := h3.other _ _ _ _ HT.out.2.1 (by decide)
          have hy2 : w3.heap[g]? = some (.cells cs 42 (0, 0)) := h3.other _ _ _ _ HI.out.2.1 (by decide)
          have hy3 : CellsAt w3 g (off + i * 4) (itCells it (some ⟨g5, off5, none⟩) kn kc) := HI.out.2.2.1.of_heap (by rw [hy2, HI.out.2.1])
          have by1 := blk (i := 0) hy1 rfl
          have i3 : w3.cell? ⟨g, off + i * 4 + 2, none⟩ = _ := hy3 2 _ rfl
          obtain ⟨g', off', h4, k4, n4, c4', hka4, hSg, h5, ⟨cs5, hcs⟩, hcl, -⟩ := el_of HI.out.2.2.2.1 HI.out.2.2.2.2 h3 j hj
          cases hka4
          have d0 : w3.cell? ⟨g5, off5 + j * 5, none⟩ = _ := hcl 0 _ rfl
          have d1 : w3.cell? ⟨g5, off5 + j * 5 + 1, none⟩ = _ := hcl 1 _ rfl
          have d2 : w3.cell? ⟨g5, off5 + j * 5 + 2, none⟩ = _ := hcl 2 _ rfl
          have d3 : w3.cell? ⟨g5, off5 + j * 5 + 3, none⟩ = _ := hcl 3 _ rfl
          have d4 : w3.cell? ⟨g5, off5 + j * 5 + 4, none⟩ = _ := hcl 4 _ rfl
          have f0 := blkf (off5 + j * 5) hcs
          have f1 := blkf (off5 + j * 5 + 1) hcs
          have f2 := blkf (off5 + j * 5 + 2) hcs
          have f3 := blkf (off5 + j * 5 + 3) hcs
          have f4 := blkf (off5 + j * 5 + 4) hcs
          have HN : Hid (∀ w', w' = ((((w3.setCell ⟨g5, off5 + j * 5, none⟩ (.int .i64 (-7))).setCell ⟨g5, off5 + j * 5 + 1, none⟩ (.int .i64 0)).setCell ⟨g5, off5 + j * 5 + 2, none⟩ (.string ⟨#[]⟩)).setCell ⟨g5, off5 + j * 5 + 3, none⟩ (.slice none 0 0)).setCell ⟨g5, off5 + j * 5 + 4, none⟩ (.int .i64 0) → Sp S wo w') := fun w' hW =>
            h3.trans (leaf_set (S := S) (p := off5 + j * 5) hSg (by omega) hcs (cells_in hcs hcl (by show 0 < 5; omega)) hW)
          clear hb3 h3 hy1 hy2 hy3 hcl hcs HB HC c0 c1 c2' c3 c4 bx1 i2 hSg h5
          go_wp2_with fail
          go_roundg (gk - 1)
          case measure => omega
          case rel => exact ⟨j + 1, by go_num, by omega, HN.out _ rfl⟩
        · have hdj : decide ((j : Int) < (kn : Int)) = false := by simp; omega
          have d0 : wr.cell? ⟨g, off + i * 4, none⟩ = _ := hx3 0 _ rfl
          have d1 : wr.cell? ⟨g, off + i * 4 + 1, none⟩ = _ := hx3 1 _ rfl
          have d3 : wr.cell? ⟨g, off + i * 4 + 3, none⟩ = _ := hx3 3 _ rfl
          have f0 := blkf (off + i * 4) hx2
          have f1 := blkf (off + i * 4 + 1) hx2
          have f2 := blkf (off + i * 4 + 2) hx2
          have f3 := blkf (off + i * 4 + 3) hx2
          have HN : Hid (∀ w', w' = (((wr.setCell ⟨g, off + i * 4, none⟩ (.int .i64 (-7))).setCell ⟨g, off + i * 4 + 1, none⟩ (.string ⟨#[]⟩)).setCell ⟨g, off + i * 4 + 2, none⟩ (.slice none 0 0)).setCell ⟨g, off + i * 4 + 3, none⟩ (.int .i64 0) → Sq S w w' ∧ w'.heap[w.heap.size]? = some (.cells #[.slice (some ⟨g, off, none⟩) n c] 24 (0, 0)) ∧ ∀ j, i + 1 ≤ j → j < n → ItE S D (some ⟨g, off, none⟩) w' j) := fun w' hW => by
            obtain ⟨q1, q2⟩ := item_set (S := S) (D := D) HI.out.1 hx2 hW
            refine ⟨(HT.out.1.trans HB.out.sq).trans q1, ?_, fun j h1 h2 => q2 j (by omega) ((HT.out.2.2 j (by omega) h2).sp HB.out)⟩
            rw [q1.block _ (lt_block hx1) (fun e => by have := HS.out _ e; omega)]; exact hx1
          clear hx1 hx2 hx3 HB HT HI
          go_wp2_with fail
          go_roundg (go - 1)
          case measure => omega
          case rel => exact ⟨i + 1, by go_num, by omega, HN.out _ rfl⟩
    · have hdi : decide ((i : Int) < (n : Int)) = false := by simp; omega
      have HX : Hid (Sq S w wo) := HT.out.1
      clear HT
      go_wp2
      go_end0
      exact ⟨rfl, HX.out⟩
end Go.Proofs.Ytnnmhmlebffacaa
namespace Go.Proofs.Ytnnmhmlebffacaa
open Go.RowKit Go.Deep

theorem plF_refl : ∀ F : Fo, plF F F = true
  | .nil => rfl
  | .node _ _ h k r => by simp [plF, plF_refl k, plF_refl r]
theorem plI_refl : ∀ L : List It, plI L L = true
  | [] => rfl
  | i :: r => by simp [plI, plF_refl, plI_refl r]
set_option maxRecDepth 20000 in
set_option maxHeartbeats 4000000 in
theorem whole_same (L : List It) (ao bo : Option Addr) (n c m d : Nat) (w : World) (o o' : Bool) (S S' : Nat → Prop) (hF : ItsAt o S w L ao n) (hG : ItsAt o' S' w L bo m) (hn : n ≤ maxLen) (hm : m ≤ maxLen) :
    Calls Try.prog 11 #[.agg #[.slice ao n c], .agg #[.slice bo m d]] w fun e' w' => e' = .returned (.bool true) ∧ Below w.heap.size w w' := by
  have hb0 := below_two w (.cells #[.slice ao n c] 24) (.cells #[.slice bo m d] 24)
  have ha : ((w.alloc (.cells #[.slice ao n c] 24)).alloc (.cells #[.slice bo m d] 24)).heap[w.heap.size]? = some (.cells #[.slice ao n c] 24 (0, 0)) := heap_old (heap_alloc_new w _)
  have hb : ((w.alloc (.cells #[.slice ao n c] 24)).alloc (.cells #[.slice bo m d] 24)).heap[w.heap.size + 1]? = some (.cells #[.slice bo m d] 24 (0, 0)) := twoN_new w _ _
  have HW : Hid (Below w.heap.size w ((w.alloc (.cells #[.slice ao n c] 24)).alloc (.cells #[.slice bo m d] 24)) ∧ ((w.alloc (.cells #[.slice ao n c] 24)).alloc (.cells #[.slice bo m d] 24)).heap[w.heap.size]? = some (.cells #[.slice ao n c] 24 (0, 0)) ∧ ((w.alloc (.cells #[.slice ao n c] 24)).alloc (.cells #[.slice bo m d] 24)).heap[w.heap.size + 1]? = some (.cells #[.slice bo m d] 24 (0, 0))) := ⟨hb0, ha, hb⟩
  have HS : Hid (∀ W, Below w.heap.size w W → Calls Try.prog 19 #[.agg #[.slice ao n c], .agg #[.slice bo m d]] W fun e' w' => e' = .returned (.bool true) ∧ Below W.heap.size W w') := fun W hW => by
    have := sameR_calls L L ao bo n c m d W o o' S S' (hF.below hW) (hG.below hW) hn hm
    rw [sameI_refl] at this
    exact this
  have HP : Hid (∀ W, Below w.heap.size w W → Calls Try.prog 29 #[.agg #[.slice ao n c], .agg #[.slice bo m d]] W fun e' w' => e' = .returned (.bool true) ∧ Below W.heap.size W w') := fun W hW => by
    have := places_calls L L ao bo n c m d W o o' S S' (hF.below hW) (hG.below hW) hn hm (sameI_refl L)
    rw [plI_refl] at this
    exact this
  clear hb0 ha hb hF hG hn hm
  go_enter Try.func11, Try.ntmps11
  go_wp2_with fail
  refine (HS.out _ HW.out.1).mono ?_
  rintro e' w2 ⟨rfl, hb2⟩
  have k1 : w2.heap[w.heap.size]? = some (.cells #[.slice ao n c] 24 (0, 0)) := by rw [hb2.block _ (lt_block HW.out.2.1)]; exact HW.out.2.1
  have k2 : w2.heap[w.heap.size + 1]? = some (.cells #[.slice bo m d] 24 (0, 0)) := by rw [hb2.block _ (lt_block HW.out.2.2)]; exact HW.out.2.2
  have z1 := blk (i := 0) k1 rfl
  have z2 := blk (i := 0) k2 rfl
  have HB2 : Hid (Below w.heap.size w w2) := HW.out.1.trans (hb2.mono HW.out.1.size)
  clear k1 k2 hb2 HW HS
  go_wp2_with fail
  refine (HP.out _ HB2.out).mono ?_
  rintro e' w3 ⟨rfl, hb3⟩
  have HB3 : Hid (Below w.heap.size w w3) := HB2.out.trans (hb3.mono HB2.out.size)
  clear hb3 HB2 HP z1 z2
  go_wp2
  go_ret
  exact ⟨rfl, HB3.out⟩
end Go.Proofs.Ytnnmhmlebffacaa
