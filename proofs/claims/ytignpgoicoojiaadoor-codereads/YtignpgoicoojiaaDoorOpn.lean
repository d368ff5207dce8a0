/-
  Codes that are handed in, opened; the table that the standard library reads, out of the statement's own condition.
-/
import Derived.Test.YtignpgoicoojiaaDoorRows
import Derived.Test.YtignpgoicoojiaaDoorLst
import Derived.Deep.Slices
import Derived.ProofKit
import Derived.OpenShut
import Derived.ShutString
import Derived.ChangeOld
import Derived.Below
import Derived.LaidMore
import Derived.Stop.Joined
import Derived.Stop.LaidErr
import Derived.MakeChecks
import Derived.SevenTiedAt
import Derived.Deep.DeepHandedRow
import Derived.Deep.DeepCutAuto
namespace Go.Proofs.YtignpgoicoojiaaDoor
open Go.RowKit Go.Deep

def SlIn (s : Sl) : Prop := s.n ≤ s.c ∧ (s.a = none → s.n = 0 ∧ s.c = 0)
set_option maxRecDepth 20000 in
theorem open_ints {H : Type} {enc : TypeId × Value → H} {W : World} {base : Nat} {spare : Nat → Bool} {held : Bool} {fuel : Nat} {cs : List Value} {x : DataW H × List MemPlace} (h : DataW.trod enc Tryd.prog W base spare held fuel 22 cs = some x) :
    ∃ (s : Sl) (l : List Int), cs = [.slice s.a s.n s.c] ∧ IntsAt W s.a s.n l ∧ SlIn s := by
  rcases Deep.open_slice Tryd.underlying22 h with ⟨rfl, _⟩ | ⟨a, len, cap, m, n, D, Pl, rfl, hb, hl, hm, hmm, _, hx⟩
  · exact ⟨⟨none, 0, 0⟩, [], rfl, IntsAt.nil _ _, Nat.le_refl _, fun _ => ⟨rfl, rfl⟩⟩
  · have c3 : Tryd.prog.cellsOf 3 = 1 := by kernel_rfl
    have hlm : len ≤ m := by rw [hmm]; split <;> omega
    have each : ∀ i, i < len → ∃ q : Int, W.cell? (a.add i) = some (.int .i64 q) := by
      intro i hi
      obtain ⟨cs', h1, h2⟩ := hx i (by omega)
      rw [c3] at h1
      obtain ⟨_, hlen, hcell⟩ := World.cells?_some h1
      obtain ⟨s0, e0, _, z0⟩ := DataW.trod_int Tryd.underlying3 h2
      subst e0
      have := hcell 0 (by omega)
      rw [Deep.add_add] at this
      exact ⟨s0, by simpa using this⟩
    obtain ⟨q, hq⟩ := Deep.choose_lt each
    refine ⟨⟨some a, len, cap⟩, (List.range len).map q, rfl, ⟨by simp, by show len ≤ maxLen; omega, fun h0 => ?_⟩, hl, fun h => by cases h⟩
    obtain ⟨b, off, spot⟩ := a
    have hspot : spot = none := by simpa [Addr.add] using World.cell?_spot (hq 0 h0)
    subst hspot
    refine ⟨b, off, rfl, fun i hi => ?_⟩
    have := hq i hi
    rw [Go.WideShapes.add_plain] at this
    rw [this]
    simp [List.getD, hi]
set_option maxRecDepth 20000 in
theorem open_qds23 {H : Type} {enc : TypeId × Value → H} {W : World} {base : Nat} {spare : Nat → Bool} {held : Bool} {fuel : Nat} {cs : List Value} {x : DataW H × List MemPlace} (h : DataW.trod enc Tryd.prog W base spare held fuel 23 cs = some x) :
    ∃ (s : Sl) (l : List Qd), cs = [.slice s.a s.n s.c] ∧ QdsAt W s.a s.n l ∧ SlIn s := by
  rcases Deep.open_slice Tryd.underlying23 h with ⟨rfl, _⟩ | ⟨a, len, cap, m, n, D, Pl, rfl, hb, hl, hm, hmm, _, hx⟩
  · exact ⟨⟨none, 0, 0⟩, [], rfl, QdsAt.nil _ _, Nat.le_refl _, fun _ => ⟨rfl, rfl⟩⟩
  · have ce : Tryd.prog.cellsOf 38 = 4 := by kernel_rfl
    have c3 : Tryd.prog.cellsOf 3 = 1 := by kernel_rfl
    have hlm : len ≤ m := by rw [hmm]; split <;> omega
    have each : ∀ i, i < len → ∃ q : Qd, W.cell? (a.add (i * 4)) = some (.int .i64 q.1) ∧ W.cell? (a.add (i * 4 + 1)) = some (.int .i64 q.2.1) ∧ W.cell? (a.add (i * 4 + 2)) = some (.int .i64 q.2.2.1) ∧ W.cell? (a.add (i * 4 + 3)) = some (.int .i64 q.2.2.2) := by
      intro i hi
      obtain ⟨cs', h1, h2⟩ := hx i (by omega)
      rw [ce] at h1
      obtain ⟨_, hlen, hcell⟩ := World.cells?_some h1
      obtain ⟨xs, k, hk, hxy, _, hxl, hf⟩ := DataW.trod_struct Tryd.underlying38 h2
      match cs', hlen with
      | [v0, v1, v2, v3], _ =>
        have g0 := hf 0 _ rfl
        have g1 := hf 1 _ rfl
        have g2 := hf 2 _ rfl
        have g3 := hf 3 _ rfl
        match xs, hxl with
        | [y0, y1, y2, y3], _ =>
          simp [c3] at g0 g1 g2 g3
          obtain ⟨s0, e0, _, z0⟩ := DataW.trod_int Tryd.underlying3 g0
          obtain ⟨s1, e1, _, z1⟩ := DataW.trod_int Tryd.underlying3 g1
          obtain ⟨s2, e2, _, z2⟩ := DataW.trod_int Tryd.underlying3 g2
          obtain ⟨s3, e3, _, z3⟩ := DataW.trod_int Tryd.underlying3 g3
          simp at e0 e1 e2 e3
          subst e0; subst e1; subst e2; subst e3
          have k0 := hcell 0 (by omega)
          have k1 := hcell 1 (by omega)
          have k2 := hcell 2 (by omega)
          have k3 := hcell 3 (by omega)
          rw [Deep.add_add] at k0 k1 k2 k3
          exact ⟨(s0, s1, s2, s3), by simpa using k0, by simpa using k1, by simpa using k2, by simpa using k3⟩
    obtain ⟨q, hq⟩ := Deep.choose_lt each
    refine ⟨⟨some a, len, cap⟩, (List.range len).map q, rfl, ⟨by simp, by show len ≤ maxLen; omega, fun h0 => ?_⟩, hl, fun h => by cases h⟩
    obtain ⟨b, off, spot⟩ := a
    have hspot : spot = none := by simpa [Addr.add] using World.cell?_spot (hq 0 h0).1
    subst hspot
    refine ⟨b, off, rfl, fun i p hi => ?_⟩
    have hil : i < len := by
      have := (List.getElem?_eq_some_iff.1 hi).1; simpa using this
    have hp : p = q i := by
      rw [List.getElem?_map, List.getElem?_range hil] at hi
      simpa using hi.symm
    subst hp
    obtain ⟨h1, h2, h3, h4⟩ := hq i hil
    rw [Go.WideShapes.add_plain] at h1 h2 h3 h4
    simp only [Nat.add_assoc] at *
    exact ⟨h1, h2, h3, h4⟩
set_option maxRecDepth 20000 in
theorem open_qds24 {H : Type} {enc : TypeId × Value → H} {W : World} {base : Nat} {spare : Nat → Bool} {held : Bool} {fuel : Nat} {cs : List Value} {x : DataW H × List MemPlace} (h : DataW.trod enc Tryd.prog W base spare held fuel 24 cs = some x) :
    ∃ (s : Sl) (l : List Qd), cs = [.slice s.a s.n s.c] ∧ QdsAt W s.a s.n l ∧ SlIn s := by
  rcases Deep.open_slice Tryd.underlying24 h with ⟨rfl, _⟩ | ⟨a, len, cap, m, n, D, Pl, rfl, hb, hl, hm, hmm, _, hx⟩
  · exact ⟨⟨none, 0, 0⟩, [], rfl, QdsAt.nil _ _, Nat.le_refl _, fun _ => ⟨rfl, rfl⟩⟩
  · have ce : Tryd.prog.cellsOf 40 = 4 := by kernel_rfl
    have c3 : Tryd.prog.cellsOf 3 = 1 := by kernel_rfl
    have hlm : len ≤ m := by rw [hmm]; split <;> omega
    have each : ∀ i, i < len → ∃ q : Qd, W.cell? (a.add (i * 4)) = some (.int .i64 q.1) ∧ W.cell? (a.add (i * 4 + 1)) = some (.int .i64 q.2.1) ∧ W.cell? (a.add (i * 4 + 2)) = some (.int .i64 q.2.2.1) ∧ W.cell? (a.add (i * 4 + 3)) = some (.int .i64 q.2.2.2) := by
      intro i hi
      obtain ⟨cs', h1, h2⟩ := hx i (by omega)
      rw [ce] at h1
      obtain ⟨_, hlen, hcell⟩ := World.cells?_some h1
      obtain ⟨xs, k, hk, hxy, _, hxl, hf⟩ := DataW.trod_struct Tryd.underlying40 h2
      match cs', hlen with
      | [v0, v1, v2, v3], _ =>
        have g0 := hf 0 _ rfl
        have g1 := hf 1 _ rfl
        have g2 := hf 2 _ rfl
        have g3 := hf 3 _ rfl
        match xs, hxl with
        | [y0, y1, y2, y3], _ =>
          simp [c3] at g0 g1 g2 g3
          obtain ⟨s0, e0, _, z0⟩ := DataW.trod_int Tryd.underlying3 g0
          obtain ⟨s1, e1, _, z1⟩ := DataW.trod_int Tryd.underlying3 g1
          obtain ⟨s2, e2, _, z2⟩ := DataW.trod_int Tryd.underlying3 g2
          obtain ⟨s3, e3, _, z3⟩ := DataW.trod_int Tryd.underlying3 g3
          simp at e0 e1 e2 e3
          subst e0; subst e1; subst e2; subst e3
          have k0 := hcell 0 (by omega)
          have k1 := hcell 1 (by omega)
          have k2 := hcell 2 (by omega)
          have k3 := hcell 3 (by omega)
          rw [Deep.add_add] at k0 k1 k2 k3
          exact ⟨(s0, s1, s2, s3), by simpa using k0, by simpa using k1, by simpa using k2, by simpa using k3⟩
    obtain ⟨q, hq⟩ := Deep.choose_lt each
    refine ⟨⟨some a, len, cap⟩, (List.range len).map q, rfl, ⟨by simp, by show len ≤ maxLen; omega, fun h0 => ?_⟩, hl, fun h => by cases h⟩
    obtain ⟨b, off, spot⟩ := a
    have hspot : spot = none := by simpa [Addr.add] using World.cell?_spot (hq 0 h0).1
    subst hspot
    refine ⟨b, off, rfl, fun i p hi => ?_⟩
    have hil : i < len := by
      have := (List.getElem?_eq_some_iff.1 hi).1; simpa using this
    have hp : p = q i := by
      rw [List.getElem?_map, List.getElem?_range hil] at hi
      simpa using hi.symm
    subst hp
    obtain ⟨h1, h2, h3, h4⟩ := hq i hil
    rw [Go.WideShapes.add_plain] at h1 h2 h3 h4
    simp only [Nat.add_assoc] at *
    exact ⟨h1, h2, h3, h4⟩
/-- A code that is handed in. -/
structure CdIn (W : World) (c : Cd) (s : Ls) : Prop where
  at' : CdAt W c s
  t : SlIn s.t
  k : SlIn s.k
  i : SlIn s.i
  r : SlIn s.r
set_option maxRecDepth 20000 in
theorem cd_in {H : Type} {enc : TypeId × Value → H} {W : World} {cs : Array Value} {d : DataW H} {p : List MemPlace} (hcs : cs.size = Tryd.prog.cellsOf 26) (h : DataW.Trod enc Tryd.prog W 0 (fun _ => true) true 26 (.agg cs) d p) :
    ∃ c s, cs = cdCells c s ∧ CdIn W c s := by
  obtain ⟨fuel, hf0⟩ := h
  have c3 : Tryd.prog.cellsOf 3 = 1 := by kernel_rfl
  have c22 : Tryd.prog.cellsOf 22 = 1 := by kernel_rfl
  have c23 : Tryd.prog.cellsOf 23 = 1 := by kernel_rfl
  have c24 : Tryd.prog.cellsOf 24 = 1 := by kernel_rfl
  have hlen : cs.toList.length = 10 := by rw [Array.length_toList, hcs]; kernel_rfl
  have hf1 : DataW.trod enc Tryd.prog W 0 (fun _ => true) true fuel 26 cs.toList = some (d, p) := hf0
  have key : ∀ l : List Value, l.length = 10 → DataW.trod enc Tryd.prog W 0 (fun _ => true) true fuel 26 l = some (d, p) → ∃ c s, l = (cdCells c s).toList ∧ CdIn W c s := by
    intro l hl h
    obtain ⟨xs, k, hk, hxy, _, hxl, hf⟩ := DataW.trod_struct Tryd.underlying26 h
    match l, hl with
    | [v0, v1, v2, v3, v4, v5, v6, v7, v8, v9], _ =>
      have g0 := hf 0 _ rfl
      have g1 := hf 1 _ rfl
      have g2 := hf 2 _ rfl
      have g3 := hf 3 _ rfl
      have g4 := hf 4 _ rfl
      have g5 := hf 5 _ rfl
      have g6 := hf 6 _ rfl
      have g7 := hf 7 _ rfl
      have g8 := hf 8 _ rfl
      have g9 := hf 9 _ rfl
      match xs, hxl with
      | [y0, y1, y2, y3, y4, y5, y6, y7, y8, y9], _ =>
        simp [c3, c22, c23, c24] at g0 g1 g2 g3 g4 g5 g6 g7 g8 g9
        obtain ⟨s0, e0, _, z0⟩ := DataW.trod_int Tryd.underlying3 g0
        obtain ⟨s1, e1, _, z1⟩ := DataW.trod_int Tryd.underlying3 g1
        obtain ⟨s2, e2, _, z2⟩ := DataW.trod_int Tryd.underlying3 g2
        obtain ⟨s3, e3, _, z3⟩ := DataW.trod_int Tryd.underlying3 g3
        obtain ⟨s4, e4, _, z4⟩ := DataW.trod_int Tryd.underlying3 g4
        obtain ⟨s5, e5, _, z5⟩ := DataW.trod_int Tryd.underlying3 g5
        obtain ⟨s6, l6, e6, i6, j6⟩ := open_ints g6
        obtain ⟨s7, l7, e7, i7, j7⟩ := open_ints g7
        obtain ⟨s8, l8, e8, i8, j8⟩ := open_qds23 g8
        obtain ⟨s9, l9, e9, i9, j9⟩ := open_qds24 g9
        simp at e0 e1 e2 e3 e4 e5 e6 e7 e8 e9
        subst e0 e1 e2 e3 e4 e5 e6 e7 e8 e9
        exact ⟨⟨s0, s1, s2, s3, s4, s5, l6, l7, l8, l9⟩, ⟨s6, s7, s8, s9⟩, rfl, ⟨i6, i7, i8, i9⟩, j6, j7, j8, j9⟩
  obtain ⟨c, s, e, hin⟩ := key _ hlen hf1
  exact ⟨c, s, Array.toList_inj.1 e, hin⟩

/-- What the statements' conditions list. -/
abbrev theLaid : List (String × DataW Unit) := Rows.codeWritesRow.laid
theorem own : ownKnob Tryd.prog.godebug = none := by kernel_rfl
theorem laidOut : laidOutB Tryd.prog = true := by kernel_rfl
theorem tab_of_laid {W : World} (h : laidMetH Tryd.prog theLaid W) : TabOk W := by
  rw [MakeChecks.laidMetH_plain _ _ _ (by kernel_rfl)] at h
  have h2 := laidMet.tail (laidMet.tail h)
  exact Lib.tabIs_of_head (g := 0) (t := 101) (e := 80) (n := 20) (by kernel_rfl) (by kernel_rfl) (by kernel_rfl) (by kernel_rfl) (by kernel_rfl) (by kernel_rfl) h2
theorem door_met (os : Os) (args : Array Value) : laidMetH Tryd.prog theLaid ((World.doorLaid Tryd.prog 400 os).forCall (fun _ _ => 0) ⟨#[], args, []⟩).memory :=
  laidMetH_of_parts3 (fuel := 8) (laidMet_of_run' 8 (by kernel_rfl) (by kernel_rfl)) (by kernel_rfl) (by kernel_rfl)

end Go.Proofs.YtignpgoicoojiaaDoor
