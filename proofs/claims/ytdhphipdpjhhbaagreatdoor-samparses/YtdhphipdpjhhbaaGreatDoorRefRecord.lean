/-
  The walk of the document's own Record.
-/
import Derived.Test.YtdhphipdpjhhbaaGreatDoorRecord2
import Derived.Test.YtdhphipdpjhhbaaGreatDoorRefLine
import Derived.Test.YtdhphipdpjhhbaaGreatDoorFields
import Derived.Test.YtdhphipdpjhhbaaGreatDoorRefParse
namespace Go.Proofs.YtdhphipdpjhhbaaGreatDoor
open Go.RowKit

/-! What the document's Record makes of fields -/
theorem readNumGo_fit (neg : Bool) : ∀ (l : List UInt8) (n : Int), fit64 n → fit64 (readNumGo neg n l)
  | [], _, h => h
  | c :: r, n, h => by
    rw [readNumGo]
    split
    · refine readNumGo_fit neg r _ ?_
      rw [wrap_is]
      exact wrap64_fit _
    · exact readNumGo_fit neg r n h
theorem readNum_fit (l : List UInt8) : fit64 (readNum l) := readNumGo_fit _ l 0 ⟨by decide, by decide⟩
theorem fit0 : fitI 0 := ⟨by decide, by decide⟩
theorem candR_fit (ls : List (List UInt8)) : fit64 (candR ls).score ∧ fit64 (candR ls).pos := by
  unfold candR
  split
  · exact ⟨readNum_fit _, readNum_fit _⟩
  · have h0 : fit64 0 := ⟨by decide, by decide⟩
    exact ⟨h0, h0⟩
theorem candR_line {l : List UInt8} {q : Rec} (hq : recB l = some q) : candR (cuts 9 l) = q := by
  obtain ⟨h1, h2, h3⟩ := recB_spec hq
  exact candR_of h1 h2 h3
theorem recB_cand {l : List UInt8} (hr : rightR (candR (cuts 9 l)) = true) (hl : lineR (candR (cuts 9 l)) = l) : recB l = some (candR (cuts 9 l)) := recB_of hr (candR_fit _).1 hl
theorem recB_not {l : List UInt8} (h : rightR (candR (cuts 9 l)) = false ∨ lineR (candR (cuts 9 l)) ≠ l) : recB l = none := by
  cases hq : recB l with
  | none => rfl
  | some q =>
    have e := candR_line hq
    obtain ⟨h1, _, h3⟩ := recB_spec hq
    rw [e] at h
    rcases h with h | h
    · rw [h1] at h; cases h
    · exact absurd h3 h
theorem recB_few {l : List UInt8} (h : (cuts 9 l).length < 11) : recB l = none := recB_wrong (by
  unfold okF
  have h1 : ¬ (cuts 9 l).length = 11 := by omega
  have h2 : ¬ (cuts 9 l).length = 12 := by omega
  simp [h1, h2])
theorem list_at {α : Type} {l : List α} {n : Nat} (h : n < l.length) : ∃ x, l[n]? = some x := ⟨l[n], List.getElem?_eq_getElem h⟩
theorem getD_at {ls : List ByteArray} {n : Nat} {x : ByteArray} (h : ls[n]? = some x) : (ls.map (·.data.toList)).getD n [] = x.data.toList := by
  rw [List.getD_eq_getElem?_getD, List.getElem?_map, h]; rfl
/-- Where the document's Record stands: its answer, the fields, the record that it makes. -/
structure RfAt (w : World) (row rs : Array Value) (gL g5 : Nat) (v : Value) (l : List Rn) (W : World) : Prop where
  low : Below w.heap.size w W
  ans : W.heap[w.heap.size]? = some (.cells zero8 24 (0, 0))
  row : W.heap[gL]? = some (.cells row 9 (0, 0))
  got : W.heap[g5]? = some (.cells rs 24 (0, 0))
  far : w.heap.size < gL ∧ gL < g5
  own : W.ownsRow w.heap.size 37 2 v l.length (rowCells l)
theorem RfAt.next {w W W' : World} {row rs : Array Value} {gL g5 : Nat} {v : Value} {l : List Rn} (h : RfAt w row rs gL g5 v l W) (hb : Below W.heap.size W W') : RfAt w row rs gL g5 v l W' :=
  ⟨h.low.trans (hb.mono h.low.size), keepB h.ans hb, keepB h.row hb, keepB h.got hb, h.far, owned_below h.own hb⟩
theorem RfAt.set {w W : World} {row rs : Array Value} {gL g5 : Nat} {v : Value} {l : List Rn} (h : RfAt w row rs gL g5 v l W) (i : Nat) (u : Value) : RfAt w row (rs.setIfInBounds i u) gL g5 v l (W.setCell ⟨g5, i, none⟩ u) := by
  obtain ⟨f1, f2⟩ := h.far
  exact ⟨h.low.setCell (show w.heap.size ≤ g5 by omega) _, keepS h.ans (by omega) _, keepS h.row (by omega) _, heap_setCell_same W g5 i rs 24 u h.got, h.far, owned_setNe h.own (owned_ne h.own h.got (by decide))⟩

set_option maxRecDepth 20000 in
set_option maxHeartbeats 4000000 in
theorem refRecord_calls (s : ByteArray) (w : World) (hs : s.size ≤ 1048576) :
    Calls Tryz.prog 16 #[.string s] w fun e w' => RecPost (recA s.data.toList) w e w' := by
  have hres : Tryz.f16.results = #[.cell 2 24, .tmp 3] := by kernel_rfl
  go_enter Tryz.func16, Tryz.ntmps16
  go_wp2_with fail
  refine (refFields_calls s _ hs).mono ?_
  rintro e w1 ⟨v, ls, rfl, hls, hown, hb1⟩
  have hans : w1.heap[w.heap.size]? = some (.cells zero8 24 (0, 0)) := by rw [hb1.block _ (by simp)]; exact heap_alloc_new w _
  have hL1 : Below w.heap.size w w1 := below_box hb1
  have hcl : (cuts 9 s.data.toList).length = ls.length := by rw [← hls, List.length_map]
  by_cases hfew : ls.length < 11
  · have HN : Hid (recB s.data.toList = none) := recB_few (by rw [hcl]; exact hfew)
    have HL : Hid (Below w.heap.size w w1) := hL1
    have z0 : w1.cell? ⟨w.heap.size, 0, none⟩ = some (.string ⟨#[]⟩) := cellB hans rfl
    have z1 : w1.cell? ⟨w.heap.size, 1, none⟩ = some (.bool false) := cellB hans rfl
    have z2 : w1.cell? ⟨w.heap.size, 2, none⟩ = some (.string ⟨#[]⟩) := cellB hans rfl
    have z3 : w1.cell? ⟨w.heap.size, 3, none⟩ = some (.int .i64 0) := cellB hans rfl
    have z4 : w1.cell? ⟨w.heap.size, 4, none⟩ = some (.slice none 0 0) := cellB hans rfl
    have z5 : w1.cell? ⟨w.heap.size, 5, none⟩ = some (.string ⟨#[]⟩) := cellB hans rfl
    have z6 : w1.cell? ⟨w.heap.size, 6, none⟩ = some (.string ⟨#[]⟩) := cellB hans rfl
    have z7 : w1.cell? ⟨w.heap.size, 7, none⟩ = some (.int .i64 0) := cellB hans rfl
    have zf_ : ∀ k, w1.frozen? ⟨w.heap.size, k, none⟩ = false := freeB hans
    obtain ⟨ao, cap, rfl⟩ := owned_shape hown
    have hd : decide ((ls.length : Int) < 11) = true := by simp; omega
    clear hown hb1 hls hL1 hcl hans
    generalize ls.length = n at *
    go_wp2
    refine bodyPost_ret (v := .tuple #[.agg #[.string ⟨#[]⟩, .bool false, .string ⟨#[]⟩, .int .i64 0, .slice none 0 0, .string ⟨#[]⟩, .string ⟨#[]⟩, .int .i64 0], .int .i64 51]) ?_ rfl (zero_post HN.out ?_)
    · simp only [results, hres]
      go_simp
    · exact below8 HL.out (Nat.le_refl _) _ _ _ _ _ _ _ _
  obtain ⟨gL, cap, rfl, hbg, hlc, _, _⟩ := owned_some hown (by omega)
  have hgL : w.heap.size < gL := by simp at hbg; omega
  obtain ⟨row, hrow, hrc⟩ : ∃ row : Array Value, w1.heap[gL]? = some (.cells row 9 (0, 0)) ∧ ∀ (j : Nat) (x : ByteArray), ls[j]? = some x → row[j]? = some (Value.string x) := by
    rcases hown.2 with ⟨hv, _⟩ | ⟨g', cap', cur, hv, hb, hg, q1, q2, q3, q4⟩
    · cases hv
    · cases hv
      refine ⟨cur, hg, fun j x hj => ?_⟩
      have h5 : (strVals ls)[j]? = some (.string x) := by simp [strVals, hj]
      rw [← q4] at h5
      have h6 : j < ls.length * 1 := by have := (List.getElem?_eq_some_iff.1 hj).1; omega
      rw [List.getElem?_take_of_lt h6] at h5
      simpa using h5
  have hsz : ∀ (j : Nat) (x : ByteArray), ls[j]? = some x → x.size ≤ 1048576 := fun j x hj => by
    have hp := cuts_piece 9 _ s.data.toList (Nat.le_refl _) x.data.toList (by rw [← hls]; exact List.mem_map.2 ⟨x, List.mem_of_getElem? hj, rfl⟩)
    rw [size_toList, size_toList] at hp; omega
  obtain ⟨x0, hx0⟩ := list_at (l := ls) (n := 0) (by omega)
  obtain ⟨x2, hx2⟩ := list_at (l := ls) (n := 2) (by omega)
  obtain ⟨x3, hx3⟩ := list_at (l := ls) (n := 3) (by omega)
  obtain ⟨x5, hx5⟩ := list_at (l := ls) (n := 5) (by omega)
  obtain ⟨x9, hx9⟩ := list_at (l := ls) (n := 9) (by omega)
  obtain ⟨x10, hx10⟩ := list_at (l := ls) (n := 10) (by omega)
  have z0 := hsz _ _ hx0
  have z2 := hsz _ _ hx2
  have z3 := hsz _ _ hx3
  have z5 := hsz _ _ hx5
  have z9 := hsz _ _ hx9
  have z10 := hsz _ _ hx10
  have HRow : Hid (∀ W : World, W.heap[gL]? = some (.cells row 9 (0, 0)) → W.cell? ⟨gL, 0, none⟩ = some (.string x0) ∧ W.cell? ⟨gL, 2, none⟩ = some (.string x2) ∧ W.cell? ⟨gL, 3, none⟩ = some (.string x3) ∧ W.cell? ⟨gL, 5, none⟩ = some (.string x5) ∧ W.cell? ⟨gL, 9, none⟩ = some (.string x9) ∧ W.cell? ⟨gL, 10, none⟩ = some (.string x10) ∧ (∀ x11, ls[11]? = some x11 → W.cell? ⟨gL, 11, none⟩ = some (.string x11))) := fun W hW => ⟨cellB hW (hrc _ _ hx0), cellB hW (hrc _ _ hx2), cellB hW (hrc _ _ hx3), cellB hW (hrc _ _ hx5), cellB hW (hrc _ _ hx9), cellB hW (hrc _ _ hx10), fun x11 h => cellB hW (hrc _ _ h)⟩
  have HCP : Hid (¬ (ls.length = 12 ∧ ∀ x, ls[11]? = some x → 5 < x.size) → candR (cuts 9 s.data.toList) = mkPlain x0.data.toList x9.data.toList x10.data.toList) := by
    intro hno
    rw [← hls]
    unfold candR
    rw [getD_at hx0, getD_at hx9, getD_at hx10, if_neg (fun h => hno ⟨by simpa using h.1, fun x hx => by have := h.2; rw [getD_at hx, size_toList] at this; exact this⟩)]
  have HCM : Hid (∀ x, ls.length = 12 → ls[11]? = some x → 5 < x.size → candR (cuts 9 s.data.toList) = ⟨x0.data.toList, true, x2.data.toList, readNum x3.data.toList, (parseA x5.data.toList).1, x9.data.toList, x10.data.toList, readNum (x.data.toList.drop 5)⟩) := by
    intro x h12 hx hlt
    rw [← hls]
    unfold candR
    rw [getD_at hx0, getD_at hx2, getD_at hx3, getD_at hx5, getD_at hx9, getD_at hx10, getD_at hx, if_pos ⟨by simpa using h12, by rw [size_toList]; exact hlt⟩]
  have hd : decide ((ls.length : Int) < 11) = false := by simp; omega
  have hn0 : (0 : Int) < (ls.length : Int) := by omega
  have hn2 : (2 : Int) < (ls.length : Int) := by omega
  have hn3 : (3 : Int) < (ls.length : Int) := by omega
  have hn5 : (5 : Int) < (ls.length : Int) := by omega
  have hn9 : (9 : Int) < (ls.length : Int) := by omega
  have hn10 : (10 : Int) < (ls.length : Int) := by omega
  have H11 : Hid (ls.length = 12 → ∃ x11, ls[11]? = some x11 ∧ x11.size ≤ 1048576) := fun h => by
    obtain ⟨x, hx⟩ := list_at (l := ls) (n := 11) (by omega)
    exact ⟨x, hx, hsz _ _ hx⟩
  obtain ⟨k0, k2, k3, k5, k9, k10, _⟩ := HRow.out w1 hrow
  have HW1 : Hid (w1.heap[w.heap.size]? = some (.cells zero8 24 (0, 0)) ∧ w1.heap[gL]? = some (.cells row 9 (0, 0)) ∧ Below w.heap.size w w1) := ⟨hans, hrow, hL1⟩
  have HKd : Hid (w1.drew.cell? ⟨gL, 0, none⟩ = some (.string x0) ∧ w1.drew.cell? ⟨gL, 9, none⟩ = some (.string x9) ∧ w1.drew.cell? ⟨gL, 10, none⟩ = some (.string x10)) := ⟨k0, k9, k10⟩
  have HKa : Hid (∀ o, (w1.alloc o).drew.cell? ⟨gL, 0, none⟩ = some (.string x0) ∧ (w1.alloc o).drew.cell? ⟨gL, 9, none⟩ = some (.string x9) ∧ (w1.alloc o).drew.cell? ⟨gL, 10, none⟩ = some (.string x10)) := fun o => by
    obtain ⟨j0, _, _, _, j9, j10, _⟩ := HRow.out (w1.alloc o).drew (keepB hrow ((below_new w1 o).drew))
    exact ⟨j0, j9, j10⟩
  clear hown hb1 hL1 hcl hans hrow hrc hx0 hx2 hx3 hx5 hx9 hx10 hls hsz hbg k2 k3 k5
  generalize hln : ls.length = n at *
  have hm0 : 0 < n := by omega
  have hm1 : ¬ n = 0 := by omega
  go_wp2
  go_region_held3 (fun W => W.cell? ⟨gL, 0, none⟩ = some (.string x0) ∧ W.cell? ⟨gL, 9, none⟩ = some (.string x9) ∧ W.cell? ⟨gL, 10, none⟩ = some (.string x10)) (first | with_reducible assumption | with_reducible exact HKd.out | with_reducible exact HKa.out _) (fail)
  have hJ0 : RfAt w row #[.string x0, .bool false, .string ⟨#[]⟩, .int .i64 0, .slice none 0 0, .string x9, .string x10, .int .i64 0] gL w1.heap.size (.slice none 0 0) [] (w1.alloc (.cells #[.string x0, .bool false, .string ⟨#[]⟩, .int .i64 0, .slice none 0 0, .string x9, .string x10, .int .i64 0] 24)).drew := by
    obtain ⟨q1, q2, q3⟩ := HW1.out
    exact ⟨(q3.alloc q3.size _).drew, keepB q1 (below_new w1 _).drew, keepB q2 (below_new w1 _).drew, heap_alloc_new w1 _, ⟨hgL, lt_block q2⟩, World.ownsRow_nil _ _ _ _⟩
  have HJ0 : Hid (RfAt w row #[.string x0, .bool false, .string ⟨#[]⟩, .int .i64 0, .slice none 0 0, .string x9, .string x10, .int .i64 0] gL w1.heap.size (.slice none 0 0) [] (w1.alloc (.cells #[.string x0, .bool false, .string ⟨#[]⟩, .int .i64 0, .slice none 0 0, .string x9, .string x10, .int .i64 0] 24)).drew) := hJ0
  clear hJ0 HKd HKa HW1 k0 k9 k10
  generalize hg5 : w1.heap.size = g5 at *
  by_cases hB : n = 12 ∧ ∀ x, ls[11]? = some x → 5 < x.size
  · obtain ⟨h12, h5⟩ := hB
    obtain ⟨x11, hx11, hz11⟩ := H11.out h12
    have hl5 : 5 < x11.size := h5 x11 hx11
    have HCm := HCM.out x11 h12 hx11 hl5
    have k11 : ((w1.alloc (.cells #[.string x0, .bool false, .string ⟨#[]⟩, .int .i64 0, .slice none 0 0, .string x9, .string x10, .int .i64 0] 24)).drew).cell? ⟨gL, 11, none⟩ = some (.string x11) := (HRow.out _ HJ0.out.row).2.2.2.2.2.2 x11 hx11
    have k5 : ((w1.alloc (.cells #[.string x0, .bool false, .string ⟨#[]⟩, .int .i64 0, .slice none 0 0, .string x9, .string x10, .int .i64 0] 24)).drew).cell? ⟨gL, 5, none⟩ = some (.string x5) := (HRow.out _ HJ0.out.row).2.2.2.1
    have hd12 : ((n : Int) == 12) = true := by rw [h12]; rfl
    have hn11 : (11 : Int) < (n : Int) := by omega
    have hd5 : decide ((5 : Int) < (x11.size : Int)) = true := by simp; omega
    have HR2 : Hid (∀ W : World, W.heap[gL]? = some (.cells row 9 (0, 0)) → W.cell? ⟨gL, 2, none⟩ = some (.string x2) ∧ W.cell? ⟨gL, 3, none⟩ = some (.string x3) ∧ W.cell? ⟨gL, 11, none⟩ = some (.string x11)) := fun W hW => ⟨(HRow.out W hW).2.1, (HRow.out W hW).2.2.1, (HRow.out W hW).2.2.2.2.2.2 x11 hx11⟩
    obtain ⟨x12, hx12⟩ : ∃ x12 : ByteArray, x11.extract 5 x11.size = x12 := ⟨_, rfl⟩
    have hx12l : x12.data.toList = x11.data.toList.drop 5 := by rw [← hx12, extract_mid, mid, List.take_of_length_le (by rw [size_toList]; exact Nat.le_refl _)]
    have hx12s : x12.size ≤ 1048576 := by rw [← size_toList, hx12l, List.length_drop, size_toList]; omega
    rw [← hx12l] at HCm
    have hsl : ∀ W, (Instr.slice 9 (.string x11) (some (.int .i64 5)) none none).run Tryz.prog W = .ok (.string x12) W := fun W => by
      rw [run_slice_string_from_if W 9 x11 .i64 5 Tryz.underlying9, if_pos (by omega)]
      rw [← hx12]; rfl
    have HRd3 : Hid (∀ W, Calls Tryz.prog 36 #[.string x3] W fun e w' => e = .returned (.int .i64 (readNum x3.data.toList)) ∧ w' = W) := fun W => refRead_calls x3 W z3
    have HRd12 : Hid (∀ W, Calls Tryz.prog 36 #[.string x12] W fun e w' => e = .returned (.int .i64 (readNum x12.data.toList)) ∧ w' = W) := fun W => refRead_calls x12 W hx12s
    have HHC : Hid (candR (cuts 9 s.data.toList) = ⟨x0.data.toList, true, x2.data.toList, readNum x3.data.toList, (parseA x5.data.toList).1, x9.data.toList, x10.data.toList, readNum x12.data.toList⟩) := HCm
    clear HCP HCM H11 HRow h12 h5 hx11 HCm hx12l hx12
    go_wp2_with fail
    refine (refParse_calls x5 _ z5).mono ?_
    rintro e w2 ⟨v2, rfl, hown2, hb2⟩
    obtain ⟨ao, cp, rfl⟩ := owned_shape hown2
    have hpf := parseA_fit x5.data.toList
    have HJ2 : Hid (RfAt w row #[.string x0, .bool false, .string ⟨#[]⟩, .int .i64 0, .slice none 0 0, .string x9, .string x10, .int .i64 0] gL g5 (.slice ao (parseA x5.data.toList).1.length cp) (parseA x5.data.toList).1 w2) := by
      have hj := HJ0.out.next hb2
      exact ⟨hj.low, hj.ans, hj.row, hj.got, hj.far, owned_base hown2 HJ0.out.low.size⟩
    generalize (parseA x5.data.toList).2 = pz at *
    generalize (parseA x5.data.toList).1 = pl at *
    have HC : Hid (candR (cuts 9 s.data.toList) = (⟨x0, true, x2, readNum x3.data.toList, ao, pl.length, cp, x9, x10, readNum x12.data.toList⟩ : RV).R pl) := HHC.out
    have HPF : Hid (∀ x ∈ pl, fitI x.2) := hpf
    obtain ⟨c2, c3, c11⟩ := HR2.out w2 HJ2.out.row
    have r0 : w2.cell? ⟨g5, 0, none⟩ = some (.string x0) := cellB HJ2.out.got rfl
    have r1 : w2.cell? ⟨g5, 1, none⟩ = some (.bool false) := cellB HJ2.out.got rfl
    have r2 : w2.cell? ⟨g5, 2, none⟩ = some (.string ⟨#[]⟩) := cellB HJ2.out.got rfl
    have r3 : w2.cell? ⟨g5, 3, none⟩ = some (.int .i64 0) := cellB HJ2.out.got rfl
    have r4 : w2.cell? ⟨g5, 4, none⟩ = some (.slice none 0 0) := cellB HJ2.out.got rfl
    have r5 : w2.cell? ⟨g5, 5, none⟩ = some (.string x9) := cellB HJ2.out.got rfl
    have r6 : w2.cell? ⟨g5, 6, none⟩ = some (.string x10) := cellB HJ2.out.got rfl
    have r7 : w2.cell? ⟨g5, 7, none⟩ = some (.int .i64 0) := cellB HJ2.out.got rfl
    have rff : ∀ k, w2.frozen? ⟨g5, k, none⟩ = false := freeB HJ2.out.got
    have hgf := HJ2.out.far
    have hne1 : ¬ gL = g5 := by omega
    have hne2 : ¬ g5 = gL := by omega
    have HLn : Hid (∀ W, RfAt w row #[.string x0, .bool true, .string x2, .int .i64 (readNum x3.data.toList), .slice ao pl.length cp, .string x9, .string x10, .int .i64 (readNum x12.data.toList)] gL g5 (.slice ao pl.length cp) pl W → Calls Tryz.prog 13 #[.agg #[.string x0, .bool true, .string x2, .int .i64 (readNum x3.data.toList), .slice ao pl.length cp, .string x9, .string x10, .int .i64 (readNum x12.data.toList)]] W fun e w' => TextPost (lineA (candR (cuts 9 s.data.toList))) W e w') := by
      intro W hJ
      have := refLine_calls ⟨x0, true, x2, readNum x3.data.toList, ao, pl.length, cp, x9, x10, readNum x12.data.toList⟩ pl W ⟨by show x0.size ≤ _; unfold maxLen; omega, by show x2.size ≤ _; unfold maxLen; omega, by show x9.size ≤ _; unfold maxLen; omega, by show x10.size ≤ _; unfold maxLen; omega, readNum_fit _, readNum_fit _, owned_rns hJ.own HPF.out⟩
      rw [← HC.out] at this
      exact this
    have HJ5 : Hid (RfAt w row #[.string x0, .bool true, .string x2, .int .i64 (readNum x3.data.toList), .slice ao pl.length cp, .string x9, .string x10, .int .i64 (readNum x12.data.toList)] gL g5 (.slice ao pl.length cp) pl (((((w2.setCell ⟨g5, 1, none⟩ (.bool true)).setCell ⟨g5, 2, none⟩ (.string x2)).setCell ⟨g5, 3, none⟩ (.int .i64 (readNum x3.data.toList))).setCell ⟨g5, 4, none⟩ (.slice ao pl.length cp)).setCell ⟨g5, 7, none⟩ (.int .i64 (readNum x12.data.toList)))) := ((((HJ2.out.set 1 _).set 2 _).set 3 _).set 4 _).set 7 _
    clear hown2 hb2 HHC hpf HJ0 k5 k11 HR2 hd12 hd5 hd hgf
    generalize readNum x3.data.toList = n3 at *
    generalize readNum x12.data.toList = n12 at *
    go_wp2_with (first
      | (go_at_call 36; refine (HRd3.out _).mono ?_; rintro e w' ⟨rfl, rfl⟩; clear HRd3)
      | (go_at_call 36; refine (HRd12.out _).mono ?_; rintro e w' ⟨rfl, rfl⟩; clear HRd12))
    refine (HLn.out _ HJ5.out).mono ?_
    rintro e w3 ⟨t, rfl, ht, hb3⟩
    have HJ3 : Hid (RfAt w row #[.string x0, .bool true, .string x2, .int .i64 n3, .slice ao pl.length cp, .string x9, .string x10, .int .i64 n12] gL g5 (.slice ao pl.length cp) pl w3) := HJ5.out.next hb3
    have HT : Hid (t.data.toList = (lineA (candR (cuts 9 s.data.toList))).1) := ht
    have hz3 := HJ3.out
    have z0 : w3.cell? ⟨w.heap.size, 0, none⟩ = some (.string ⟨#[]⟩) := cellB hz3.ans rfl
    have z1 : w3.cell? ⟨w.heap.size, 1, none⟩ = some (.bool false) := cellB hz3.ans rfl
    have z2 : w3.cell? ⟨w.heap.size, 2, none⟩ = some (.string ⟨#[]⟩) := cellB hz3.ans rfl
    have z3 : w3.cell? ⟨w.heap.size, 3, none⟩ = some (.int .i64 0) := cellB hz3.ans rfl
    have z4 : w3.cell? ⟨w.heap.size, 4, none⟩ = some (.slice none 0 0) := cellB hz3.ans rfl
    have z5 : w3.cell? ⟨w.heap.size, 5, none⟩ = some (.string ⟨#[]⟩) := cellB hz3.ans rfl
    have z6 : w3.cell? ⟨w.heap.size, 6, none⟩ = some (.string ⟨#[]⟩) := cellB hz3.ans rfl
    have z7 : w3.cell? ⟨w.heap.size, 7, none⟩ = some (.int .i64 0) := cellB hz3.ans rfl
    have zf_ : ∀ k, w3.frozen? ⟨w.heap.size, k, none⟩ = false := freeB hz3.ans
    have r0 : w3.cell? ⟨g5, 0, none⟩ = some (.string x0) := cellB hz3.got rfl
    have r1 : w3.cell? ⟨g5, 1, none⟩ = some (.bool true) := cellB hz3.got rfl
    have r2 : w3.cell? ⟨g5, 2, none⟩ = some (.string x2) := cellB hz3.got rfl
    have r3 : w3.cell? ⟨g5, 3, none⟩ = some (.int .i64 n3) := cellB hz3.got rfl
    have r4 : w3.cell? ⟨g5, 4, none⟩ = some (.slice ao pl.length cp) := cellB hz3.got rfl
    have r5 : w3.cell? ⟨g5, 5, none⟩ = some (.string x9) := cellB hz3.got rfl
    have r6 : w3.cell? ⟨g5, 6, none⟩ = some (.string x10) := cellB hz3.got rfl
    have r7 : w3.cell? ⟨g5, 7, none⟩ = some (.int .i64 n12) := cellB hz3.got rfl
    clear hz3 hb3 ht HLn
    cases hR : rightR (candR (cuts 9 s.data.toList)) with
    | false =>
      have HN : Hid (recB s.data.toList = none) := recB_not (.inl hR)
      have he : (lineA (candR (cuts 9 s.data.toList))).2 = 51 := by rw [lineA, hR]; rfl
      rw [he]
      clear hR he HT
      go_wp2
      refine bodyPost_ret (v := .tuple #[.agg #[.string ⟨#[]⟩, .bool false, .string ⟨#[]⟩, .int .i64 0, .slice none 0 0, .string ⟨#[]⟩, .string ⟨#[]⟩, .int .i64 0], .int .i64 51]) ?_ rfl (zero_post HN.out ?_)
      · simp only [results, hres]
        go_simp
      · exact below8 HJ3.out.low (Nat.le_refl _) _ _ _ _ _ _ _ _
    | true =>
      have hel : lineA (candR (cuts 9 s.data.toList)) = (lineR (candR (cuts 9 s.data.toList)), 0) := by rw [lineA, hR]; rfl
      rw [hel] at HT ⊢
      by_cases hq : lineR (candR (cuts 9 s.data.toList)) = s.data.toList
      · have HG : Hid (recB s.data.toList = some (candR (cuts 9 s.data.toList))) := recB_cand hR hq
        have hts : (t.toList != s.toList) = false := by rw [ByteArray.toList_eq, ByteArray.toList_eq, HT.out]; simp only [hq, bne_self_eq_false]
        have hts2 : t.toList = s.toList := by rw [ByteArray.toList_eq, ByteArray.toList_eq, HT.out]; exact hq
        have hts3 : (t.toList == s.toList) = true := by rw [beq_iff_eq]; exact hts2
        clear hR hel hq HT
        go_wp2
        refine bodyPost_ret (v := .tuple #[.agg #[.string x0, .bool true, .string x2, .int .i64 n3, .slice ao pl.length cp, .string x9, .string x10, .int .i64 n12], .int .i64 0]) ?_ rfl ?_
        · simp only [results, hres]
          go_simp
        · rw [recA_some HG.out]
          refine ⟨RV.mk x0 true x2 n3 ao pl.length cp x9 x10 n12, rfl, ?_, ?_, below8 HJ3.out.low (Nat.le_refl _) _ _ _ _ _ _ _ _⟩
          · rw [HC.out]; rfl
          · rw [HC.out]
            have n1 := owned_ne HJ3.out.own HJ3.out.ans (by decide)
            exact owned_setNe (owned_setNe (owned_setNe (owned_setNe (owned_setNe (owned_setNe (owned_setNe (owned_setNe HJ3.out.own n1) n1) n1) n1) n1) n1) n1) n1
      · have HN : Hid (recB s.data.toList = none) := recB_not (.inr hq)
        have hts : (t.toList != s.toList) = true := by rw [ByteArray.toList_eq, ByteArray.toList_eq, HT.out]; simpa using hq
        have hts2 : ¬ t.toList = s.toList := by rw [ByteArray.toList_eq, ByteArray.toList_eq, HT.out]; exact hq
        have hts3 : (t.toList == s.toList) = false := by rw [beq_eq_false_iff_ne]; exact hts2
        clear hR hel hq HT
        go_wp2
        refine bodyPost_ret (v := .tuple #[.agg #[.string ⟨#[]⟩, .bool false, .string ⟨#[]⟩, .int .i64 0, .slice none 0 0, .string ⟨#[]⟩, .string ⟨#[]⟩, .int .i64 0], .int .i64 51]) ?_ rfl (zero_post HN.out ?_)
        · simp only [results, hres]
          go_simp
        · exact below8 HJ3.out.low (Nat.le_refl _) _ _ _ _ _ _ _ _
  · have HC : Hid (candR (cuts 9 s.data.toList) = mkPlain x0.data.toList x9.data.toList x10.data.toList) := HCP.out hB
    have HLn : Hid (∀ W, Calls Tryz.prog 13 #[.agg #[.string x0, .bool false, .string ⟨#[]⟩, .int .i64 0, .slice none 0 0, .string x9, .string x10, .int .i64 0]] W fun e w' => TextPost (lineA (candR (cuts 9 s.data.toList))) W e w') := by
      intro W
      have := refLine_calls ⟨x0, false, ⟨#[]⟩, 0, none, 0, 0, x9, x10, 0⟩ [] W ⟨by show x0.size ≤ _; unfold maxLen; omega, Nat.zero_le _, by show x9.size ≤ _; unfold maxLen; omega, by show x10.size ≤ _; unfold maxLen; omega, fit0, fit0, RnsAt.nil _ _⟩
      rw [show (⟨x0, false, ⟨#[]⟩, 0, none, 0, 0, x9, x10, 0⟩ : RV).R [] = candR (cuts 9 s.data.toList) from HC.out.symm] at this
      exact this
    by_cases h12 : n = 12
    · obtain ⟨x11, hx11, hz11⟩ := H11.out h12
      have hle : x11.size ≤ 5 := by
        by_cases h : 5 < x11.size
        · exact absurd ⟨h12, fun x hx => by rw [hx11] at hx; cases hx; exact h⟩ hB
        · omega
      have k11 : ((w1.alloc (.cells #[.string x0, .bool false, .string ⟨#[]⟩, .int .i64 0, .slice none 0 0, .string x9, .string x10, .int .i64 0] 24)).drew).cell? ⟨gL, 11, none⟩ = some (.string x11) := (HRow.out _ HJ0.out.row).2.2.2.2.2.2 x11 hx11
      have hd12 : ((n : Int) == 12) = true := by rw [h12]; rfl
      have hn11 : (11 : Int) < (n : Int) := by omega
      have hd5 : decide ((5 : Int) < (x11.size : Int)) = false := by simp; omega
      clear HCP HCM H11 HRow hB h12
      go_wp2_with fail
      refine (HLn.out _).mono ?_
      rintro e w3 ⟨t, rfl, ht, hb3⟩
      have HJ3 : Hid (RfAt w row #[.string x0, .bool false, .string ⟨#[]⟩, .int .i64 0, .slice none 0 0, .string x9, .string x10, .int .i64 0] gL g5 (.slice none 0 0) [] w3) := HJ0.out.next hb3
      have HT : Hid (t.data.toList = (lineA (candR (cuts 9 s.data.toList))).1) := ht
      have hz3 := HJ3.out
      have z0 : w3.cell? ⟨w.heap.size, 0, none⟩ = some (.string ⟨#[]⟩) := cellB hz3.ans rfl
      have z1 : w3.cell? ⟨w.heap.size, 1, none⟩ = some (.bool false) := cellB hz3.ans rfl
      have z2 : w3.cell? ⟨w.heap.size, 2, none⟩ = some (.string ⟨#[]⟩) := cellB hz3.ans rfl
      have z3 : w3.cell? ⟨w.heap.size, 3, none⟩ = some (.int .i64 0) := cellB hz3.ans rfl
      have z4 : w3.cell? ⟨w.heap.size, 4, none⟩ = some (.slice none 0 0) := cellB hz3.ans rfl
      have z5 : w3.cell? ⟨w.heap.size, 5, none⟩ = some (.string ⟨#[]⟩) := cellB hz3.ans rfl
      have z6 : w3.cell? ⟨w.heap.size, 6, none⟩ = some (.string ⟨#[]⟩) := cellB hz3.ans rfl
      have z7 : w3.cell? ⟨w.heap.size, 7, none⟩ = some (.int .i64 0) := cellB hz3.ans rfl
      have zf_ : ∀ k, w3.frozen? ⟨w.heap.size, k, none⟩ = false := freeB hz3.ans
      have r0 : w3.cell? ⟨g5, 0, none⟩ = some (.string x0) := cellB hz3.got rfl
      have r1 : w3.cell? ⟨g5, 1, none⟩ = some (.bool false) := cellB hz3.got rfl
      have r2 : w3.cell? ⟨g5, 2, none⟩ = some (.string ⟨#[]⟩) := cellB hz3.got rfl
      have r3 : w3.cell? ⟨g5, 3, none⟩ = some (.int .i64 0) := cellB hz3.got rfl
      have r4 : w3.cell? ⟨g5, 4, none⟩ = some (.slice none 0 0) := cellB hz3.got rfl
      have r5 : w3.cell? ⟨g5, 5, none⟩ = some (.string x9) := cellB hz3.got rfl
      have r6 : w3.cell? ⟨g5, 6, none⟩ = some (.string x10) := cellB hz3.got rfl
      have r7 : w3.cell? ⟨g5, 7, none⟩ = some (.int .i64 0) := cellB hz3.got rfl
      clear hz3 hb3 ht HLn
      cases hR : rightR (candR (cuts 9 s.data.toList)) with
      | false =>
        have HN : Hid (recB s.data.toList = none) := recB_not (.inl hR)
        have he : (lineA (candR (cuts 9 s.data.toList))).2 = 51 := by rw [lineA, hR]; rfl
        rw [he]
        clear hR he HT
        go_wp2
        refine bodyPost_ret (v := .tuple #[.agg #[.string ⟨#[]⟩, .bool false, .string ⟨#[]⟩, .int .i64 0, .slice none 0 0, .string ⟨#[]⟩, .string ⟨#[]⟩, .int .i64 0], .int .i64 51]) ?_ rfl (zero_post HN.out ?_)
        · simp only [results, hres]
          go_simp
        · exact below8 HJ3.out.low (Nat.le_refl _) _ _ _ _ _ _ _ _
      | true =>
        have hel : lineA (candR (cuts 9 s.data.toList)) = (lineR (candR (cuts 9 s.data.toList)), 0) := by rw [lineA, hR]; rfl
        rw [hel] at HT ⊢
        by_cases hq : lineR (candR (cuts 9 s.data.toList)) = s.data.toList
        · have HG : Hid (recB s.data.toList = some (candR (cuts 9 s.data.toList))) := recB_cand hR hq
          have hts : (t.toList != s.toList) = false := by rw [ByteArray.toList_eq, ByteArray.toList_eq, HT.out]; simp only [hq, bne_self_eq_false]
          have hts2 : t.toList = s.toList := by rw [ByteArray.toList_eq, ByteArray.toList_eq, HT.out]; exact hq
          have hts3 : (t.toList == s.toList) = true := by rw [beq_iff_eq]; exact hts2
          clear hR hel hq HT
          go_wp2
          refine bodyPost_ret (v := .tuple #[.agg #[.string x0, .bool false, .string ⟨#[]⟩, .int .i64 0, .slice none 0 0, .string x9, .string x10, .int .i64 0], .int .i64 0]) ?_ rfl ?_
          · simp only [results, hres]
            go_simp
          · rw [recA_some HG.out]
            refine ⟨RV.mk x0 false ⟨#[]⟩ 0 none 0 0 x9 x10 0, rfl, ?_, ?_, below8 HJ3.out.low (Nat.le_refl _) _ _ _ _ _ _ _ _⟩
            · rw [HC.out]; rfl
            · rw [HC.out]
              have n1 := owned_ne HJ3.out.own HJ3.out.ans (by decide)
              exact owned_setNe (owned_setNe (owned_setNe (owned_setNe (owned_setNe (owned_setNe (owned_setNe (owned_setNe HJ3.out.own n1) n1) n1) n1) n1) n1) n1) n1
        · have HN : Hid (recB s.data.toList = none) := recB_not (.inr hq)
          have hts : (t.toList != s.toList) = true := by rw [ByteArray.toList_eq, ByteArray.toList_eq, HT.out]; simpa using hq
          have hts2 : ¬ t.toList = s.toList := by rw [ByteArray.toList_eq, ByteArray.toList_eq, HT.out]; exact hq
          have hts3 : (t.toList == s.toList) = false := by rw [beq_eq_false_iff_ne]; exact hts2
          clear hR hel hq HT
          go_wp2
          refine bodyPost_ret (v := .tuple #[.agg #[.string ⟨#[]⟩, .bool false, .string ⟨#[]⟩, .int .i64 0, .slice none 0 0, .string ⟨#[]⟩, .string ⟨#[]⟩, .int .i64 0], .int .i64 51]) ?_ rfl (zero_post HN.out ?_)
          · simp only [results, hres]
            go_simp
          · exact below8 HJ3.out.low (Nat.le_refl _) _ _ _ _ _ _ _ _
    · have hd12 : ((n : Int) == 12) = false := by rw [beq_eq_false_iff_ne]; omega
      clear HCP HCM H11 HRow hB
      go_wp2_with fail
      refine (HLn.out _).mono ?_
      rintro e w3 ⟨t, rfl, ht, hb3⟩
      have HJ3 : Hid (RfAt w row #[.string x0, .bool false, .string ⟨#[]⟩, .int .i64 0, .slice none 0 0, .string x9, .string x10, .int .i64 0] gL g5 (.slice none 0 0) [] w3) := HJ0.out.next hb3
      have HT : Hid (t.data.toList = (lineA (candR (cuts 9 s.data.toList))).1) := ht
      have hz3 := HJ3.out
      have z0 : w3.cell? ⟨w.heap.size, 0, none⟩ = some (.string ⟨#[]⟩) := cellB hz3.ans rfl
      have z1 : w3.cell? ⟨w.heap.size, 1, none⟩ = some (.bool false) := cellB hz3.ans rfl
      have z2 : w3.cell? ⟨w.heap.size, 2, none⟩ = some (.string ⟨#[]⟩) := cellB hz3.ans rfl
      have z3 : w3.cell? ⟨w.heap.size, 3, none⟩ = some (.int .i64 0) := cellB hz3.ans rfl
      have z4 : w3.cell? ⟨w.heap.size, 4, none⟩ = some (.slice none 0 0) := cellB hz3.ans rfl
      have z5 : w3.cell? ⟨w.heap.size, 5, none⟩ = some (.string ⟨#[]⟩) := cellB hz3.ans rfl
      have z6 : w3.cell? ⟨w.heap.size, 6, none⟩ = some (.string ⟨#[]⟩) := cellB hz3.ans rfl
      have z7 : w3.cell? ⟨w.heap.size, 7, none⟩ = some (.int .i64 0) := cellB hz3.ans rfl
      have zf_ : ∀ k, w3.frozen? ⟨w.heap.size, k, none⟩ = false := freeB hz3.ans
      have r0 : w3.cell? ⟨g5, 0, none⟩ = some (.string x0) := cellB hz3.got rfl
      have r1 : w3.cell? ⟨g5, 1, none⟩ = some (.bool false) := cellB hz3.got rfl
      have r2 : w3.cell? ⟨g5, 2, none⟩ = some (.string ⟨#[]⟩) := cellB hz3.got rfl
      have r3 : w3.cell? ⟨g5, 3, none⟩ = some (.int .i64 0) := cellB hz3.got rfl
      have r4 : w3.cell? ⟨g5, 4, none⟩ = some (.slice none 0 0) := cellB hz3.got rfl
      have r5 : w3.cell? ⟨g5, 5, none⟩ = some (.string x9) := cellB hz3.got rfl
      have r6 : w3.cell? ⟨g5, 6, none⟩ = some (.string x10) := cellB hz3.got rfl
      have r7 : w3.cell? ⟨g5, 7, none⟩ = some (.int .i64 0) := cellB hz3.got rfl
      clear hz3 hb3 ht HLn
      cases hR : rightR (candR (cuts 9 s.data.toList)) with
      | false =>
        have HN : Hid (recB s.data.toList = none) := recB_not (.inl hR)
        have he : (lineA (candR (cuts 9 s.data.toList))).2 = 51 := by rw [lineA, hR]; rfl
        rw [he]
        clear hR he HT
        go_wp2
        refine bodyPost_ret (v := .tuple #[.agg #[.string ⟨#[]⟩, .bool false, .string ⟨#[]⟩, .int .i64 0, .slice none 0 0, .string ⟨#[]⟩, .string ⟨#[]⟩, .int .i64 0], .int .i64 51]) ?_ rfl (zero_post HN.out ?_)
        · simp only [results, hres]
          go_simp
        · exact below8 HJ3.out.low (Nat.le_refl _) _ _ _ _ _ _ _ _
      | true =>
        have hel : lineA (candR (cuts 9 s.data.toList)) = (lineR (candR (cuts 9 s.data.toList)), 0) := by rw [lineA, hR]; rfl
        rw [hel] at HT ⊢
        by_cases hq : lineR (candR (cuts 9 s.data.toList)) = s.data.toList
        · have HG : Hid (recB s.data.toList = some (candR (cuts 9 s.data.toList))) := recB_cand hR hq
          have hts : (t.toList != s.toList) = false := by rw [ByteArray.toList_eq, ByteArray.toList_eq, HT.out]; simp only [hq, bne_self_eq_false]
          have hts2 : t.toList = s.toList := by rw [ByteArray.toList_eq, ByteArray.toList_eq, HT.out]; exact hq
          have hts3 : (t.toList == s.toList) = true := by rw [beq_iff_eq]; exact hts2
          clear hR hel hq HT
          go_wp2
          refine bodyPost_ret (v := .tuple #[.agg #[.string x0, .bool false, .string ⟨#[]⟩, .int .i64 0, .slice none 0 0, .string x9, .string x10, .int .i64 0], .int .i64 0]) ?_ rfl ?_
          · simp only [results, hres]
            go_simp
          · rw [recA_some HG.out]
            refine ⟨RV.mk x0 false ⟨#[]⟩ 0 none 0 0 x9 x10 0, rfl, ?_, ?_, below8 HJ3.out.low (Nat.le_refl _) _ _ _ _ _ _ _ _⟩
            · rw [HC.out]; rfl
            · rw [HC.out]
              have n1 := owned_ne HJ3.out.own HJ3.out.ans (by decide)
              exact owned_setNe (owned_setNe (owned_setNe (owned_setNe (owned_setNe (owned_setNe (owned_setNe (owned_setNe HJ3.out.own n1) n1) n1) n1) n1) n1) n1) n1
        · have HN : Hid (recB s.data.toList = none) := recB_not (.inr hq)
          have hts : (t.toList != s.toList) = true := by rw [ByteArray.toList_eq, ByteArray.toList_eq, HT.out]; simpa using hq
          have hts2 : ¬ t.toList = s.toList := by rw [ByteArray.toList_eq, ByteArray.toList_eq, HT.out]; exact hq
          have hts3 : (t.toList == s.toList) = false := by rw [beq_eq_false_iff_ne]; exact hts2
          clear hR hel hq HT
          go_wp2
          refine bodyPost_ret (v := .tuple #[.agg #[.string ⟨#[]⟩, .bool false, .string ⟨#[]⟩, .int .i64 0, .slice none 0 0, .string ⟨#[]⟩, .string ⟨#[]⟩, .int .i64 0], .int .i64 51]) ?_ rfl (zero_post HN.out ?_)
          · simp only [results, hres]
            go_simp
          · exact below8 HJ3.out.low (Nat.le_refl _) _ _ _ _ _ _ _ _
end Go.Proofs.YtdhphipdpjhhbaaGreatDoor
