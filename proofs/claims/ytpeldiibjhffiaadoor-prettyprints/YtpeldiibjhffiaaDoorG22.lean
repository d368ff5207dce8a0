/-
  Trees and expressions that are handed in, opened. The table that the standard library reads, out of the statements' own condition; trees and expressions that are handed in. The document's writer: what it has written; lay, kid, digits.
-/
import Derived.Deep.Slices
import Derived.SizedLaws
import Derived.Test.YtpeldiibjhffiaaDoorRows
import Derived.WalkKit
import Derived.ProofKit
import Derived.OpenShut
import Derived.ShutString
import Derived.ChangeOld
import Derived.Below
import Derived.LaidMore
import Derived.Stop.Joined
import Derived.Stop.LaidErr
import Derived.MakeChecks
import Derived.Deep.QuietTactic
import Derived.BigQuiet
import Derived.Test.YtpeldiibjhffiaaDoorG07
import Derived.Test.YtpeldiibjhffiaaDoorG21
namespace Go.Proofs.YtpeldiibjhffiaaDoor
open Go.RowKit Go.Deep

/-- As many as a list may have that is handed in. -/
def mxE : Nat := 2199023255552
/-- Each list within is short. -/
def fewF : Fo → Prop
  | .nil => True
  | .node _ _ _ k r => lenF k ≤ mxE ∧ fewF k ∧ fewF r
def fromQ (q : Nat → Ex) : Nat → Nat → Fo
  | 0, _ => .nil
  | n + 1, i => nd (q i).1 (q i).2 (fromQ q n (i + 1))
theorem int_in {n : Int} (h : (Lit.int .i64 n).wf = true) : InR n := by
  have h2 : -9223372036854775808 ≤ n ∧ n ≤ 9223372036854775807 := by simpa [Lit.wf, IntKind.min, IntKind.max, IntKind.signed, IntKind.bits] using h
  exact h2
theorem fewF_from (q : Nat → Ex) : ∀ (n i : Nat), (∀ j, i ≤ j → j < i + n → lenF (q j).2 ≤ mxE ∧ fewF (q j).2) → fewF (fromQ q n i)
  | 0, _, _ => trivial
  | n + 1, i, h => ⟨(h i (Nat.le_refl _) (by omega)).1, (h i (Nat.le_refl _) (by omega)).2, fewF_from q n (i + 1) fun j h1 h2 => h j (by omega) (by omega)⟩
theorem foAt_from {W : World} {b off : Nat} (q : Nat → Ex) : ∀ (n i : Nat), (∀ j, i ≤ j → j < i + n → HdOk (q j).1 ∧ ∃ ka kn kc, kn ≤ maxLen ∧ CellsAt W b (off + j * 5) (exCells (q j).1 ka kn kc) ∧ FoAt false (fun _ => True) W (q j).2 ka kn) →
    FoAt false (fun _ => True) W (fromQ q n i) (some ⟨b, off + i * 5, none⟩) n
  | 0, _, _ => rfl
  | n + 1, i, h => by
    obtain ⟨h1, ka, kn, kc, h2, h3, h4⟩ := h i (Nat.le_refl _) (by omega)
    refine ⟨b, off + i * 5, ka, kn, kc, n, rfl, rfl, trivial, (fun e => by cases e), h1, h2, h3, h4, ?_⟩
    have := foAt_from q n (i + 1) fun j h1 h2 => h j (by omega) (by omega)
    rw [show off + i * 5 + 5 = off + (i + 1) * 5 by omega]
    exact this
/-- A list of expressions that is handed in. -/
def OpenF (W : World) (cs : List Value) : Prop :=
  ∃ ao len cap F, cs = [.slice ao len cap] ∧ len ≤ mxE ∧ fewF F ∧ FoAt false (fun _ => True) W F ao len
/-- An expression that is handed in, as its cells. -/
def OpenE (W : World) (cs : List Value) : Prop :=
  ∃ (e : Ex) (ka : Option Addr) (kn kc : Nat), cs = exCells e.1 ka kn kc ∧ HdOk e.1 ∧ kn ≤ mxE ∧ fewF e.2 ∧ FoAt false (fun _ => True) W e.2 ka kn
theorem c33 : Tryd.prog.cellsOf 35 = 1 := by kernel_rfl
theorem c35 : Tryd.prog.cellsOf 40 = 5 := by kernel_rfl
theorem c42 : Tryd.prog.cellsOf 37 = 4 := by kernel_rfl
theorem c3 : Tryd.prog.cellsOf 3 = 1 := by kernel_rfl
theorem c9 : Tryd.prog.cellsOf 9 = 1 := by kernel_rfl
theorem c22 : Tryd.prog.cellsOf 22 = 1 := by kernel_rfl
theorem b35 : Tryd.prog.bytesOf 40 = 64 := by kernel_rfl
theorem b42 : Tryd.prog.bytesOf 37 = 56 := by kernel_rfl
theorem wall_mem {H : Type} {P : Program} {e : TypeId} : ∀ {l : List (DataW H)} {d : DataW H}, d ∈ l → ∀ n ∈ d.weights P e, n ∈ DataW.weightsAll P e l
  | d0 :: r, d, hd, n, hn => by
    simp only [DataW.weightsAll, List.mem_append]
    rcases List.mem_cons.1 hd with rfl | h
    · exact Or.inl hn
    · exact Or.inr (wall_mem h n hn)
section
variable {H : Type} {enc : TypeId × Value → H} {W : World} {base : Nat} {held : Bool}
set_option maxRecDepth 20000 in
theorem open_ex {fuel : Nat} (IH : ∀ f, f < fuel → ∀ (cs : List Value) (x : DataW H × List MemPlace), DataW.trod enc Tryd.prog W base (fun _ => true) held f 35 cs = some x → (∀ n ∈ x.1.weights Tryd.prog 35, n ≤ reachBytes) → OpenF W cs)
    {cs : List Value} {x : DataW H × List MemPlace} (hlen : cs.length = 5) (h : DataW.trod enc Tryd.prog W base (fun _ => true) held fuel 40 cs = some x) (hw : ∀ n ∈ x.1.weights Tryd.prog 40, n ≤ reachBytes) : OpenE W cs := by
  obtain ⟨xs, k, hk, hxy, _, hxl, hf⟩ := DataW.trod_struct Tryd.underlying40 h
  match cs, hlen with
  | [v0, v1, v2, v3, v4], _ =>
    have g0 := hf 0 _ rfl
    have g1 := hf 1 _ rfl
    have g2 := hf 2 _ rfl
    have g3 := hf 3 _ rfl
    have g4 := hf 4 _ rfl
    match xs, hxl with
    | [y0, y1, y2, y3, y4], _ =>
      simp [c9, c3, c33] at g0 g1 g2 g3 g4
      obtain ⟨s0, e0, _, z0⟩ := DataW.trod_int Tryd.underlying3 g0
      obtain ⟨s1, e1, _, z1⟩ := DataW.trod_int Tryd.underlying3 g1
      obtain ⟨s2, e2, _, z2⟩ := DataW.trod_string Tryd.underlying9 g2
      obtain ⟨s4, e4, _, z4⟩ := DataW.trod_int Tryd.underlying3 g4
      have hw3 : ∀ n ∈ y3.1.weights Tryd.prog 35, n ≤ reachBytes := fun n hn => hw n (by
        rw [hxy]
        simp only [DataW.weights, Tryd.underlying40]
        exact DataW.weights_mem_each (j := 3) (t := 35) (d := y3.1) rfl rfl n hn)
      obtain ⟨ao, len, cap, F, e3, q1, q2, q3⟩ := IH k (by omega) _ _ g3 hw3
      simp at e0 e1 e2 e3 e4
      subst e0 e1 e2 e3 e4
      refine ⟨(⟨s0, s1, s2.data.toList, s4⟩, F), ao, len, cap, ?_, ⟨int_in z0, int_in z1, by rw [size_toList]; exact z2, int_in z4⟩, q1, q2, q3⟩
      simp only [exCells]
      rw [bs_of]
set_option maxRecDepth 20000 in
theorem open_fo : ∀ (fuel : Nat) (cs : List Value) (x : DataW H × List MemPlace), DataW.trod enc Tryd.prog W base (fun _ => true) held fuel 35 cs = some x → (∀ n ∈ x.1.weights Tryd.prog 35, n ≤ reachBytes) → OpenF W cs := by
  intro fuel
  induction fuel using Nat.strongRecOn with
  | ind fuel IH =>
    intro cs x h hw
    rcases DataW.trod_slice Tryd.underlying35 h with ⟨rfl, _⟩ | ⟨a, len, cap, elems, rest, n, hn, rfl, rfl, hb, hl, hm, hlen, hel, hsp, _⟩
    · exact ⟨none, 0, 0, .nil, rfl, Nat.zero_le _, trivial, rfl⟩
    · have hwl : len ≤ mxE := by
        have := hw ((elems.length + rest.length) * 64) (by simp [DataW.weights, Tryd.underlying35, b35])
        unfold reachBytes at this
        unfold mxE
        omega
      have each : ∀ i, i < len → ∃ q : Ex, (HdOk q.1 ∧ ∃ ka kn kc, kn ≤ mxE ∧ fewF q.2 ∧ (∀ j u, (exCells q.1 ka kn kc)[j]? = some u → W.cell? (a.add (i * 5 + j)) = some u) ∧ FoAt false (fun _ => True) W q.2 ka kn) := by
        intro i hi
        have h1 := hel i hi
        have h2 : elems[i]? = some elems[i] := List.getElem?_eq_getElem (by omega)
        rw [h2, c35] at h1
        obtain ⟨cs', h3, h4⟩ := Option.bind_eq_some_iff.1 h1
        obtain ⟨_, hlen5, hcell⟩ := World.cells?_some h3
        obtain ⟨e, ka, kn, kc, rfl, hok, hkn, hfw, hfo⟩ := open_ex (fun f hf => IH f (by omega)) (by omega) h4 (fun m hm => hw m (by
          simp only [DataW.weights, Tryd.underlying35]
          refine List.mem_cons_of_mem _ (List.mem_append_left _ ?_)
          exact wall_mem (List.mem_map.2 ⟨elems[i], List.getElem_mem _, rfl⟩) m hm))
        refine ⟨e, hok, ka, kn, kc, hkn, hfw, fun j u hj => ?_, hfo⟩
        have hj5 : j < 5 := by have := (List.getElem?_eq_some_iff.1 hj).1; simpa [exCells] using this
        have := hcell j (by omega)
        rw [Deep.add_add] at this
        rw [this]; exact hj
      haveI : Inhabited Ex := ⟨(⟨0, 0, [], 0⟩, .nil)⟩
      obtain ⟨q, hq⟩ := Deep.choose_lt each
      by_cases h0 : len = 0
      · subst h0
        exact ⟨some a, 0, cap, .nil, rfl, Nat.zero_le _, trivial, rfl⟩
      obtain ⟨b, off, spot⟩ := a
      have hspot : spot = none := by
        obtain ⟨_, ka, kn, kc, _, _, hc, _⟩ := hq 0 (by omega)
        simpa [Addr.add] using World.cell?_spot (hc 0 _ rfl)
      subst hspot
      refine ⟨some ⟨b, off, none⟩, len, cap, fromQ q len 0, rfl, hwl, fewF_from q len 0 fun j _ hj => ?_, ?_⟩
      · obtain ⟨_, ka, kn, kc, h1, h2, _, h4⟩ := hq j (by omega)
        rw [← foAt_len h4]
        exact ⟨h1, h2⟩
      · have := foAt_from (W := W) (b := b) (off := off) q len 0 fun j _ hj => by
          obtain ⟨h1, ka, kn, kc, h2, _, h3, h4⟩ := hq j (by omega)
          refine ⟨h1, ka, kn, kc, by unfold mxE at h2; unfold maxLen; omega, fun i u hi => ?_, h4⟩
          have := h3 i u hi
          rw [Go.WideShapes.add_plain] at this
          rw [Nat.add_assoc]; exact this
        simpa using this
set_option maxRecDepth 20000 in
/-- As many as a tree may have that is handed in. -/
theorem open_it {fuel : Nat} {cs : List Value} {x : DataW H × List MemPlace} (hlen : cs.length = 4) (h : DataW.trod enc Tryd.prog W base (fun _ => true) held fuel 37 cs = some x) (hw : ∀ n ∈ x.1.weights Tryd.prog 37, n ≤ reachBytes) :
    ∃ (i : It) (ka : Option Addr) (kn kc : Nat), cs = itCells i ka kn kc ∧ ItOk i ∧ kn ≤ mxE ∧ fewF i.args ∧ FoAt false (fun _ => True) W i.args ka kn := by
  obtain ⟨xs, k, hk, hxy, _, hxl, hf⟩ := DataW.trod_struct Tryd.underlying37 h
  match cs, hlen with
  | [v0, v1, v2, v3], _ =>
    have g0 := hf 0 _ rfl
    have g1 := hf 1 _ rfl
    have g2 := hf 2 _ rfl
    have g3 := hf 3 _ rfl
    match xs, hxl with
    | [y0, y1, y2, y3], _ =>
      simp [c9, c3, c33] at g0 g1 g2 g3
      obtain ⟨s0, e0, _, z0⟩ := DataW.trod_int Tryd.underlying3 g0
      obtain ⟨s1, e1, _, z1⟩ := DataW.trod_string Tryd.underlying9 g1
      obtain ⟨s3, e3, _, z3⟩ := DataW.trod_int Tryd.underlying3 g3
      have hw2 : ∀ n ∈ y2.1.weights Tryd.prog 35, n ≤ reachBytes := fun n hn => hw n (by
        rw [hxy]
        simp only [DataW.weights, Tryd.underlying37]
        exact DataW.weights_mem_each (j := 2) (t := 35) (d := y2.1) rfl rfl n hn)
      obtain ⟨ao, len, cap, F, e2, q1, q2, q3⟩ := open_fo k _ _ g2 hw2
      simp at e0 e1 e2 e3
      subst e0 e1 e2 e3
      refine ⟨⟨s0, s1.data.toList, F, s3⟩, ao, len, cap, ?_, ⟨int_in z0, by rw [size_toList]; exact z1, int_in z3⟩, q1, q2, q3⟩
      simp only [itCells]
      rw [bs_of]
end
theorem itsAt_from {W : World} {b off : Nat} (q : Nat → It) : ∀ (n i : Nat), (∀ j, i ≤ j → j < i + n → ItOk (q j) ∧ ∃ ka kn kc, kn ≤ maxLen ∧ CellsAt W b (off + j * 4) (itCells (q j) ka kn kc) ∧ FoAt false (fun _ => True) W (q j).args ka kn) →
    ItsAt false (fun _ => True) W ((List.range' i n).map q) (some ⟨b, off + i * 4, none⟩) n
  | 0, _, _ => rfl
  | n + 1, i, h => by
    obtain ⟨h1, ka, kn, kc, h2, h3, h4⟩ := h i (Nat.le_refl _) (by omega)
    refine ⟨b, off + i * 4, ka, kn, kc, n, rfl, rfl, trivial, (fun e => by cases e), h1, h2, h3, h4, ?_⟩
    have := itsAt_from q n (i + 1) fun j h1 h2 => h j (by omega) (by omega)
    rw [show off + i * 4 + 4 = off + (i + 1) * 4 by omega]
    exact this
def mxI : Nat := 2513169434884
/-- A tree that is handed in. -/
structure TreeIn (W : World) (L : List It) (ao : Option Addr) (len : Nat) : Prop where
  few : len ≤ mxI
  each : ∀ i ∈ L, lenF i.args ≤ mxE ∧ fewF i.args
  its : ItsAt false (fun _ => True) W L ao len
section
variable {H : Type} {enc : TypeId × Value → H} {W : World} {base : Nat} {held : Bool}
set_option maxRecDepth 20000 in
theorem open_its {fuel : Nat} {cs : List Value} {x : DataW H × List MemPlace} (h : DataW.trod enc Tryd.prog W base (fun _ => true) held fuel 22 cs = some x) (hw : ∀ n ∈ x.1.weights Tryd.prog 22, n ≤ reachBytes) :
    ∃ ao len cap L, cs = [.slice ao len cap] ∧ TreeIn W L ao len := by
  rcases DataW.trod_slice Tryd.underlying22 h with ⟨rfl, _⟩ | ⟨a, len, cap, elems, rest, n, hn, rfl, rfl, hb, hl, hm, hlen, hel, hsp, _⟩
  · exact ⟨none, 0, 0, [], rfl, Nat.zero_le _, (fun _ h => by cases h), rfl⟩
  · have hwl : len ≤ mxI := by
      have := hw ((elems.length + rest.length) * 56) (by simp [DataW.weights, Tryd.underlying22, b42])
      unfold reachBytes at this
      unfold mxI
      omega
    have each : ∀ i, i < len → ∃ q : It, (ItOk q ∧ ∃ ka kn kc, kn ≤ mxE ∧ fewF q.args ∧ (∀ j u, (itCells q ka kn kc)[j]? = some u → W.cell? (a.add (i * 4 + j)) = some u) ∧ FoAt false (fun _ => True) W q.args ka kn) := by
      intro i hi
      have h1 := hel i hi
      have h2 : elems[i]? = some elems[i] := List.getElem?_eq_getElem (by omega)
      rw [h2, c42] at h1
      obtain ⟨cs', h3, h4⟩ := Option.bind_eq_some_iff.1 h1
      obtain ⟨_, hlen5, hcell⟩ := World.cells?_some h3
      obtain ⟨e, ka, kn, kc, rfl, hok, hkn, hfw, hfo⟩ := open_it (by omega) h4 (fun m hm => hw m (by
        simp only [DataW.weights, Tryd.underlying22]
        refine List.mem_cons_of_mem _ (List.mem_append_left _ ?_)
        exact wall_mem (List.mem_map.2 ⟨elems[i], List.getElem_mem _, rfl⟩) m hm))
      refine ⟨e, hok, ka, kn, kc, hkn, hfw, fun j u hj => ?_, hfo⟩
      have hj5 : j < 4 := by have := (List.getElem?_eq_some_iff.1 hj).1; simpa [itCells] using this
      have := hcell j (by omega)
      rw [Deep.add_add] at this
      rw [this]; exact hj
    haveI : Inhabited It := ⟨⟨0, [], .nil, 0⟩⟩
    obtain ⟨q, hq⟩ := Deep.choose_lt each
    by_cases h0 : len = 0
    · subst h0
      exact ⟨some a, 0, cap, [], rfl, Nat.zero_le _, (fun _ h => by cases h), rfl⟩
    obtain ⟨b, off, spot⟩ := a
    have hspot : spot = none := by
      obtain ⟨_, ka, kn, kc, _, _, hc, _⟩ := hq 0 (by omega)
      simpa [Addr.add] using World.cell?_spot (hc 0 _ rfl)
    subst hspot
    refine ⟨some ⟨b, off, none⟩, len, cap, (List.range' 0 len).map q, rfl, hwl, fun i hi => ?_, ?_⟩
    · obtain ⟨j, hj, rfl⟩ := List.mem_map.1 hi
      have hj' : j < len := by simpa using hj
      obtain ⟨_, ka, kn, kc, h1, h2, _, h4⟩ := hq j hj'
      rw [← foAt_len h4]
      exact ⟨h1, h2⟩
    · have := itsAt_from (W := W) (b := b) (off := off) q len 0 fun j _ hj => by
        obtain ⟨h1, ka, kn, kc, h2, _, h3, h4⟩ := hq j (by omega)
        refine ⟨h1, ka, kn, kc, by unfold mxE at h2; unfold maxLen; omega, fun i u hi => ?_, h4⟩
        have := h3 i u hi
        rw [Go.WideShapes.add_plain] at this
        rw [Nat.add_assoc]; exact this
      simpa using this
set_option maxRecDepth 20000 in
theorem open_tree {fuel : Nat} {cs : List Value} {x : DataW H × List MemPlace} (hlen : cs.length = 1) (h : DataW.trod enc Tryd.prog W base (fun _ => true) held fuel 24 cs = some x) (hw : ∀ n ∈ x.1.weights Tryd.prog 24, n ≤ reachBytes) :
    ∃ ao len cap L, cs = [.slice ao len cap] ∧ TreeIn W L ao len := by
  obtain ⟨xs, k, hk, hxy, _, hxl, hf⟩ := DataW.trod_struct Tryd.underlying24 h
  match cs, hlen with
  | [v0], _ =>
    have g0 := hf 0 _ rfl
    match xs, hxl with
    | [y0], _ =>
      simp [c22] at g0
      exact open_its g0 fun n hn => hw n (by
        rw [hxy]
        simp only [DataW.weights, Tryd.underlying24]
        exact DataW.weights_mem_each (j := 0) (t := 22) (d := y0.1) rfl rfl n hn)
set_option maxRecDepth 20000 in
theorem open_expr {fuel : Nat} {cs : List Value} {x : DataW H × List MemPlace} (hlen : cs.length = 5) (h : DataW.trod enc Tryd.prog W base (fun _ => true) held fuel 40 cs = some x) (hw : ∀ n ∈ x.1.weights Tryd.prog 40, n ≤ reachBytes) : OpenE W cs :=
  open_ex (fun f _ => open_fo f) hlen h hw
end
end Go.Proofs.YtpeldiibjhffiaaDoor
namespace Go.Proofs.YtpeldiibjhffiaaDoor
open Go.RowKit Go.Deep

/-- What the statements' conditions list. -/
abbrev theLaid : List (String × DataW Unit) := Rows.prettyPrintsRow.laid
theorem own : ownKnob Tryd.prog.godebug = none := by kernel_rfl
theorem laidOut : laidOutB Tryd.prog = true := by kernel_rfl
theorem tab_of_laid {W : World} (h : laidMetH Tryd.prog theLaid W) : TabOk W := by
  rw [MakeChecks.laidMetH_plain _ _ _ (by kernel_rfl)] at h
  have h2 := laidMet.tail (laidMet.tail h)
  exact Lib.tabIs_of_head (g := 0) (t := 121) (e := 114) (n := 20) (by kernel_rfl) (by kernel_rfl) (by kernel_rfl) (by kernel_rfl) (by kernel_rfl) (by kernel_rfl) h2
theorem door_met (os : Os) (args : Array Value) : laidMetH Tryd.prog theLaid ((World.doorLaid Tryd.prog 400 os).forCall (fun _ _ => 0) ⟨#[], args, []⟩).memory :=
  laidMetH_of_parts3 (fuel := 8) (laidMet_of_run' 8 (by kernel_rfl) (by kernel_rfl)) (by kernel_rfl) (by kernel_rfl)
theorem tree_in {H : Type} {enc : TypeId × Value → H} {W : World} {cs : Array Value} {d : DataW H} {p : List MemPlace} (hcs : cs.size = Tryd.prog.cellsOf 24) (h : DataW.Trod enc Tryd.prog W 0 (fun _ => true) true 24 (.agg cs) d p) (hw : ∀ n ∈ d.weights Tryd.prog 24, n ≤ reachBytes) :
    ∃ ao len cap L, cs = #[.slice ao len cap] ∧ TreeIn W L ao len := by
  obtain ⟨fuel, hf⟩ := h
  obtain ⟨ao, len, cap, L, hl, hin⟩ := open_tree (by rw [show (Value.agg cs).cells.toList = cs.toList from rfl, Array.length_toList, hcs]; kernel_rfl) hf hw
  exact ⟨ao, len, cap, L, Array.toList_inj.1 hl, hin⟩
theorem expr_in {H : Type} {enc : TypeId × Value → H} {W : World} {cs : Array Value} {d : DataW H} {p : List MemPlace} (hcs : cs.size = Tryd.prog.cellsOf 40) (h : DataW.Trod enc Tryd.prog W 0 (fun _ => true) true 40 (.agg cs) d p) (hw : ∀ n ∈ d.weights Tryd.prog 40, n ≤ reachBytes) :
    ∃ (e : Ex) (ka : Option Addr) (kn kc : Nat), cs = #[.int .i64 e.1.kind, .int .i64 e.1.num, .string (bs e.1.text), .slice ka kn kc, .int .i64 e.1.pl] ∧ ExAt false (fun _ => True) W e ka kn := by
  obtain ⟨fuel, hf⟩ := h
  obtain ⟨e, ka, kn, kc, hl, hok, hkn, _, hF⟩ := open_expr (by rw [show (Value.agg cs).cells.toList = cs.toList from rfl, Array.length_toList, hcs]; kernel_rfl) hf hw
  exact ⟨e, ka, kn, kc, Array.toList_inj.1 hl, hok, by unfold mxE at hkn; unfold maxLen; omega, hF⟩

end Go.Proofs.YtpeldiibjhffiaaDoor
namespace Go.Proofs.YtpeldiibjhffiaaDoor
open Go.RowKit Go.Deep

/-- Blocks that hold neither bytes nor a writer stay as they are. -/
def Kw (w w' : World) : Prop := ∀ (g : Nat) (cs : Array Value) (t : TypeId) (f : Nat × Nat), (t ≠ 5 ∧ t ≠ 57) → w.heap[g]? = some (.cells cs t f) → w'.heap[g]? = some (.cells cs t f)
theorem Kw.refl (w : World) : Kw w w := fun _ _ _ _ _ h => h
theorem Kw.trans {a b c : World} (h : Kw a b) (k : Kw b c) : Kw a c := fun g cs t f ht hg => k g cs t f ht (h g cs t f ht hg)
theorem Kw.of_below {w w' : World} (h : Below w.heap.size w w') : Kw w w' := fun g _ _ _ _ hg => by rw [h.block g (lt_block hg)]; exact hg
theorem Kw.cells {w w' : World} (h : Kw w w') {g : Nat} {cs : Array Value} {t : TypeId} {f : Nat × Nat} (hg : w.heap[g]? = some (.cells cs t f)) (h1 : t ≠ 5) (h2 : t ≠ 57) : w'.heap[g]? = some (.cells cs t f) := h g cs t f ⟨h1, h2⟩ hg
/-- What was written, against what was to be written: the same, or both too long. -/
def WT (T T' : List UInt8) : Prop := (T.length ≤ 4000 → T' = T) ∧ (4000 < T.length → 4000 < T'.length)
/-- The writer in memory. -/
def WAt (w0 : World) (b : Nat) (T : List UInt8) (w : World) : Prop :=
  ∃ (T' : List UInt8) (ao : Option Addr) (cap : Nat), w.heap[b]? = some (.cells #[.slice ao T'.length cap] 57 (0, 0)) ∧ w.ownsRow w0.heap.size 5 1 (.slice ao T'.length cap) T'.length (bV T') ∧ WT T T' ∧ T'.length ≤ 4200 ∧ w0.heap.size ≤ b ∧ Below w0.heap.size w0 w
theorem WAt.low {w0 : World} {b : Nat} {T : List UInt8} {w : World} (h : WAt w0 b T w) : Below w0.heap.size w0 w := by
  obtain ⟨_, _, _, _, _, _, _, _, h1⟩ := h
  exact h1
theorem WAt.next {w0 : World} {b : Nat} {T : List UInt8} {w w' : World} (h : WAt w0 b T w) (hb : Below w.heap.size w w') : WAt w0 b T w' := by
  obtain ⟨T', ao, cap, h1, h2, h3, h4, h5, h6⟩ := h
  exact ⟨T', ao, cap, by rw [hb.block b (lt_block h1)]; exact h1, owned_of_block h2 fun g _ _ hc => hb.block g (lt_block hc), h3, h4, h5, h6.trans (hb.mono h6.size)⟩
/-- What writing a text leaves. -/
def WPost (w0 : World) (b : Nat) (T X : List UInt8) (w : World) (e : Ending) (w' : World) : Prop := e = .returned (.tuple #[]) ∧ WAt w0 b (T ++ X) w' ∧ Kw w w'
theorem kw_alloc (w : World) (o : Obj) : Kw w (w.alloc o) := Kw.of_below (low_alloc w o)
set_option maxRecDepth 20000 in
set_option maxHeartbeats 2000000 in
theorem wlay_calls (w0 : World) (b : Nat) (T : List UInt8) (s : ByteArray) (hs : s.size ≤ 100) (w : World) (h : WAt w0 b T w) :
    Calls Tryd.prog 35 #[.pointer (some ⟨b, 0, none⟩), .string s] w (WPost w0 b T s.data.toList w) := by
  obtain ⟨i0, hi, hz0, hz1, hz2⟩ := info_parts info5
  obtain ⟨T', ao, cap, hbk, hown, hwt, hsm, hbb, hlow⟩ := h
  have hc := blk (i := 0) hbk rfl
  by_cases h4 : T'.length ≤ 4000
  · have hd4 : decide ((T'.length : Int) ≤ 4000) = true := by simp only [decide_eq_true_eq]; omega
    have HO : Hid (w.ownsRow w0.heap.size 5 1 (.slice ao T'.length cap) T'.length (bV T')) := hown
    have HK : Hid (w.heap[b]? = some (.cells #[.slice ao T'.length cap] 57 (0, 0)) ∧ w0.heap.size ≤ b ∧ Below w0.heap.size w0 w) := ⟨hbk, hbb, hlow⟩
    have hBw : w0.heap.size ≤ w.heap.size := hlow.size
    have HW : Hid (WT (T ++ s.data.toList) (T' ++ s.data.toList) ∧ (T' ++ s.data.toList).length = T'.length + s.size) := by
      refine ⟨⟨fun h1 => ?_, fun h1 => ?_⟩, by rw [List.length_append, size_toList]⟩
      · rw [hwt.1 (by simp only [List.length_append] at h1; omega)]
      · by_cases h2 : T.length ≤ 4000
        · rw [hwt.1 h2]; exact h1
        · have := hwt.2 (by omega); omega
    generalize hn : T'.length = n at *
    have HN : Hid (T'.length = n) := hn
    clear hn hown hbk hlow hwt hbb
    go_enter Tryd.func35, Tryd.ntmps35
    go_wp2_with (at_builtin; go_loud (refine Lib.wpList_append_own_string _ rfl _ _ 47 9 rfl w0.heap.size 5 i0 Tryd.underlying47 Tryd.underlying9 hi hz0 hz1 hz2 _ _ _ rfl HO.out s rfl ?c1 ?c2 ?c3 ?_))
    case c1 => unfold maxLen; omega
    case c2 => omega
    case c3 => omega
    intro v' w2 hown' hgrow _
    obtain ⟨ao2, cap2, rfl⟩ := owned_shape hown'
    have hne : some b ≠ (Value.slice ao n cap).ownBlock := by
      intro e'
      rcases HO.out.2 with ⟨hv, _⟩ | ⟨g', cap', cur', hv, _, hg', _⟩
      · rw [hv] at e'; cases e'
      · rw [hv] at e'; simp [Value.ownBlock] at e'; subst e'; have := HK.out.1; rw [hg'] at this; cases this
    have hbk2 : w2.heap[b]? = some (.cells #[.slice ao n cap] 57 (0, 0)) := by
      rw [hgrow.block b (lt_block HK.out.1) hne]; exact HK.out.1
    have hc2 := blk (i := 0) hbk2 rfl
    have hf2 := blkf 0 hbk2
    have HZ : Hid (WPost w0 b T s.data.toList w (.returned (.tuple #[])) (w2.setCell ⟨b, 0, none⟩ (.slice ao2 (n + s.size) cap2))) := by
      refine ⟨rfl, ⟨T' ++ s.data.toList, ao2, cap2, ?_, ?_, HW.out.1, ?_, HK.out.2.1, ?_⟩, ?_⟩
      · rw [HW.out.2]; exact heap_put hbk2 rfl
      · rw [HW.out.2, bV_append]
        exact owned_of_block hown' fun g _ _ hx => heap_other rfl (fun e => by rw [e, hbk2] at hx; cases hx)
      · rw [HW.out.2]; omega
      · have h5 : Below w0.heap.size w w2 := Below.grown (Below.refl _ _) hgrow hBw (fun k hk => (HO.out.lt k hk).1)
        exact (HK.out.2.2.trans h5).setCell (p := ⟨b, 0, none⟩) HK.out.2.1 _
      · intro g cs t f ht hg
        have h6 : w2.heap[g]? = some (.cells cs t f) := by
          rw [hgrow.block g (lt_block hg) (fun e' => by
            rcases HO.out.2 with ⟨hv, _⟩ | ⟨g', cap', cur', hv, _, hg', _⟩
            · rw [hv] at e'; cases e'
            · rw [hv] at e'; simp [Value.ownBlock] at e'; subst e'; rw [hg'] at hg; cases hg; exact ht.1 rfl)]
          exact hg
        rw [heap_other h6 (fun e => by rw [e, hbk2] at h6; cases h6; exact ht.2 rfl)]
    clear hown' hgrow hbk2 HO HK HW hne
    go_wp2
    go_end0
    exact HZ.out
  · have hd4 : decide ((T'.length : Int) ≤ 4000) = false := by simp only [decide_eq_false_iff_not]; omega
    have HZ : Hid (WPost w0 b T s.data.toList w (.returned (.tuple #[])) w) := by
      refine ⟨rfl, ⟨T', ao, cap, hbk, hown, ⟨fun h1 => ?_, fun _ => by omega⟩, hsm, hbb, hlow⟩, Kw.refl _⟩
      exfalso
      have h2 : T.length ≤ 4000 := by simp only [List.length_append] at h1; omega
      rw [hwt.1 h2] at h4
      exact h4 h2
    generalize T'.length = n at *
    clear hown hbk hlow hwt hbb hsm h4
    go_enter Tryd.func35, Tryd.ntmps35
    go_wp2
    go_end0
    exact HZ.out
theorem WPost.after {w0 : World} {b : Nat} {T X Y : List UInt8} {w w2 : World} {e : Ending} {w' : World} (h : WPost w0 b (T ++ X) Y w2 e w') (hk : Kw w w2) : WPost w0 b T (X ++ Y) w e w' := by
  obtain ⟨h1, h2, h3⟩ := h
  rw [List.append_assoc] at h2
  exact ⟨h1, h2, hk.trans h3⟩
theorem WPost.from {w0 : World} {b : Nat} {T X : List UInt8} {w w2 : World} {e : Ending} {w' : World} (h : WPost w0 b T X w2 e w') (hk : Kw w w2) : WPost w0 b T X w e w' := ⟨h.1, h.2.1, hk.trans h.2.2⟩
def sumB (k : Int) : Bool := decide (k = 5) || decide (k = 6)
def brW (br : Bool) (x : List UInt8) : List UInt8 := if br then [40] ++ (x ++ [41]) else x
set_option maxHeartbeats 1000000 in
theorem sum_calls (h : Hd) (ka : Option Addr) (kn kc : Nat) (w : World) : Calls Tryd.prog 77 #[.agg #[.int .i64 h.kind, .int .i64 h.num, .string (bs h.text), .slice ka kn kc, .int .i64 h.pl]] w fun e w' => e = .returned (.bool (sumB h.kind)) ∧ Below w.heap.size w w' := by
  have HB : Hid (Below w.heap.size w (w.alloc (.cells #[.int .i64 h.kind, .int .i64 h.num, .string (bs h.text), .slice ka kn kc, .int .i64 h.pl] 40))) := low_alloc _ _
  have HE : Hid (sumB h.kind = (decide (h.kind = 5) || decide (h.kind = 6))) := rfl
  generalize sumB h.kind = R at *
  by_cases h5 : h.kind = 5
  · have q5 : (h.kind == 5) = true := by rw [h5]; rfl
    have HR : Hid (R = true) := by have := HE.out; rw [h5] at this; exact this
    clear HE h5
    go_enter Tryd.func77, Tryd.ntmps77
    go_wp2
    go_ret
    exact ⟨ret_bool HR.out.symm, HB.out⟩
  · have q5 : (h.kind == 5) = false := by rw [beq_eq_false_iff_ne]; exact h5
    have HR : Hid (R = (h.kind == 6)) := by
      have := HE.out
      rw [decide_eq_false h5, Bool.false_or] at this
      rw [this]
      show decide (h.kind = 6) = (h.kind == 6)
      rw [Bool.eq_iff_iff]; simp
    generalize hq : (h.kind == 6) = q6 at *
    clear HE h5
    go_enter Tryd.func77, Tryd.ntmps77
    go_wp2
    go_ret
    exact ⟨ret_bool HR.out.symm, HB.out⟩
set_option maxHeartbeats 1000000 in
theorem product_calls (h : Hd) (ka : Option Addr) (kn kc : Nat) (w : World) : Calls Tryd.prog 78 #[.agg #[.int .i64 h.kind, .int .i64 h.num, .string (bs h.text), .slice ka kn kc, .int .i64 h.pl]] w fun e w' => e = .returned (.bool (decide (h.kind = 7))) ∧ Below w.heap.size w w' := by
  have HB : Hid (Below w.heap.size w (w.alloc (.cells #[.int .i64 h.kind, .int .i64 h.num, .string (bs h.text), .slice ka kn kc, .int .i64 h.pl] 40))) := low_alloc _ _
  have HR : Hid (decide (h.kind = 7) = (h.kind == 7)) := by show _ = _; rw [Bool.eq_iff_iff]; simp
  generalize decide (h.kind = 7) = R at *
  generalize hq : (h.kind == 7) = q6 at *
  go_enter Tryd.func78, Tryd.ntmps78
  go_wp2
  go_ret
  exact ⟨ret_bool HR.out.symm, HB.out⟩
/-- An expression is written by the document's writer. -/
def WEx (w0 : World) (b : Nat) (e : Ex) (ka : Option Addr) (kn kc : Nat) : Prop := ∀ T w, WAt w0 b T w → Calls Tryd.prog 52 #[.pointer (some ⟨b, 0, none⟩), .agg #[.int .i64 e.1.kind, .int .i64 e.1.num, .string (bs e.1.text), .slice ka kn kc, .int .i64 e.1.pl]] w (WPost w0 b T (txE e) w)
set_option maxRecDepth 20000 in
set_option maxHeartbeats 2000000 in
theorem wkid_calls {w0 : World} {b : Nat} {e : Ex} {ka : Option Addr} {kn kc : Nat} (HX : WEx w0 b e ka kn kc) (br : Bool) (T : List UInt8) (w : World) (h : WAt w0 b T w) :
    Calls Tryd.prog 36 #[.pointer (some ⟨b, 0, none⟩), .agg #[.int .i64 e.1.kind, .int .i64 e.1.num, .string (bs e.1.text), .slice ka kn kc, .int .i64 e.1.pl], .bool br] w (WPost w0 b T (brW br (txE e)) w) := by
  have hS1 := h.next (low_alloc w (.cells #[.int .i64 e.1.kind, .int .i64 e.1.num, .string (bs e.1.text), .slice ka kn kc, .int .i64 e.1.pl] 40))
  have H1 : Hid (WAt w0 b T (w.alloc (.cells #[.int .i64 e.1.kind, .int .i64 e.1.num, .string (bs e.1.text), .slice ka kn kc, .int .i64 e.1.pl] 40)) ∧ Kw w (w.alloc (.cells #[.int .i64 e.1.kind, .int .i64 e.1.num, .string (bs e.1.text), .slice ka kn kc, .int .i64 e.1.pl] 40)) ∧ (w.alloc (.cells #[.int .i64 e.1.kind, .int .i64 e.1.num, .string (bs e.1.text), .slice ka kn kc, .int .i64 e.1.pl] 40)).heap[w.heap.size]? = some (.cells #[.int .i64 e.1.kind, .int .i64 e.1.num, .string (bs e.1.text), .slice ka kn kc, .int .i64 e.1.pl] 40 (0, 0))) := ⟨hS1, kw_alloc _ _, heap_alloc_new w _⟩
  have HL : Hid (WEx w0 b e ka kn kc) := HX
  have HLy : Hid (∀ (T : List UInt8) (s : ByteArray) (w : World), s.size ≤ 100 → WAt w0 b T w → Calls Tryd.prog 35 #[.pointer (some ⟨b, 0, none⟩), .string s] w (WPost w0 b T s.data.toList w)) := fun T s w h1 h2 => wlay_calls w0 b T s h1 w h2
  obtain ⟨T', ao, cap, hbk, hown, hwt, hsm, hbb, hlow⟩ := hS1
  have hc := blk (i := 0) hbk rfl
  by_cases h4 : 4000 < T'.length
  · have hd4 : decide ((4000 : Int) < (T'.length : Int)) = true := by simp only [decide_eq_true_eq]; omega
    have HP : Hid (WPost w0 b T (brW br (txE e)) w (.returned (.tuple #[])) (w.alloc (.cells #[.int .i64 e.1.kind, .int .i64 e.1.num, .string (bs e.1.text), .slice ka kn kc, .int .i64 e.1.pl] 40))) := by
      refine ⟨rfl, ⟨T', ao, cap, hbk, hown, ⟨fun h1 => ?_, fun _ => h4⟩, hsm, hbb, hlow⟩, H1.out.2.1⟩
      exfalso
      have h2 : T.length ≤ 4000 := by simp only [List.length_append] at h1; omega
      rw [hwt.1 h2] at h4
      omega
    generalize T'.length = n at *
    clear h HX hbk hown hwt hsm hbb hlow h4
    go_enter Tryd.func36, Tryd.ntmps36
    go_wp2
    go_end0
    exact HP.out
  · have hd4 : decide ((4000 : Int) < (T'.length : Int)) = false := by simp only [decide_eq_false_iff_not]; omega
    generalize T'.length = n at *
    clear h HX hbk hown hwt hsm hbb hlow h4
    cases br with
    | false =>
      go_enter Tryd.func36, Tryd.ntmps36
      go_wp2_with fail
      refine (HL.out T _ H1.out.1).mono ?_
      rintro e' w2 ⟨rfl, hp⟩
      have HP : Hid (WPost w0 b T (brW false (txE e)) w (.returned (.tuple #[])) w2) := WPost.from ⟨rfl, hp⟩ H1.out.2.1
      clear hp
      go_wp2
      go_end0
      exact HP.out
    | true =>
      go_enter Tryd.func36, Tryd.ntmps36
      go_wp2_with fail
      refine (HLy.out T ⟨#[40]⟩ _ (by decide) H1.out.1).mono ?_
      rintro e' w2 ⟨rfl, hS2, hk2⟩
      have hbx := hk2.cells H1.out.2.2 (by decide) (by decide)
      have x0 := blk (i := 0) hbx rfl
      have x1 := blk (i := 1) hbx rfl
      have x2 := blk (i := 2) hbx rfl
      have x3 := blk (i := 3) hbx rfl
      have x4 := blk (i := 4) hbx rfl
      have H2 : Hid (WAt w0 b (T ++ [40]) w2 ∧ Kw w w2) := ⟨hS2, H1.out.2.1.trans hk2⟩
      clear hS2 hk2 hbx hc
      go_wp2_with fail
      refine (HL.out _ _ H2.out.1).mono ?_
      rintro e' w3 ⟨rfl, hS3, hk3⟩
      have H3 : Hid (WAt w0 b (T ++ [40] ++ txE e) w3 ∧ Kw w2 w3) := ⟨hS3, hk3⟩
      clear hS3 hk3 x0 x1 x2 x3 x4
      go_wp2_with fail
      refine (HLy.out _ ⟨#[41]⟩ _ (by decide) H3.out.1).mono ?_
      rintro e' w4 ⟨rfl, hp⟩
      have HP : Hid (WPost w0 b T (brW true (txE e)) w (.returned (.tuple #[])) w4) := WPost.after (WPost.after ⟨rfl, hp⟩ H3.out.2) H2.out.2
      clear hp
      go_wp2
      go_end0
      exact HP.out
def digS (d : Nat) : ByteArray := ⟨#[UInt8.ofNat (48 + d)]⟩
theorem digS_cut : ∀ d, d < 10 → (⟨#[48, 49, 50, 51, 52, 53, 54, 55, 56, 57]⟩ : ByteArray).extract d (d + 1) = digS d
  | 0, _ | 1, _ | 2, _ | 3, _ | 4, _ | 5, _ | 6, _ | 7, _ | 8, _ | 9, _ => rfl
  | d + 10, h => absurd h (by omega)
theorem run_dig (n : Nat) (W : World) : (Instr.slice 9 (.string ⟨#[48, 49, 50, 51, 52, 53, 54, 55, 56, 57]⟩) (some (.int .i64 ((n : Int) % 10))) (some (.int .i64 ((n : Int) % 10 + 1))) none).run Tryd.prog W = .ok (.string (digS (n % 10))) W := by
  have hs : (⟨#[48, 49, 50, 51, 52, 53, 54, 55, 56, 57]⟩ : ByteArray).size = 10 := rfl
  rw [run_slice_string W 9 _ .i64 .i64 _ _ Tryd.underlying9 (by omega) (by omega) (by rw [hs]; omega)]
  have e1 : ((n : Int) % 10).toNat = n % 10 := by omega
  have e2 : ((n : Int) % 10 + 1).toNat = n % 10 + 1 := by omega
  rw [e1, e2, digS_cut _ (Nat.mod_lt _ (by decide))]
theorem run_dig1 (n : Nat) (hn : n < 10) (W : World) : (Instr.slice 9 (.string ⟨#[48, 49, 50, 51, 52, 53, 54, 55, 56, 57]⟩) (some (.int .i64 (n : Int))) (some (.int .i64 ((n : Int) + 1))) none).run Tryd.prog W = .ok (.string (digS n)) W := by
  have hs : (⟨#[48, 49, 50, 51, 52, 53, 54, 55, 56, 57]⟩ : ByteArray).size = 10 := rfl
  rw [run_slice_string W 9 _ .i64 .i64 _ _ Tryd.underlying9 (by omega) (by omega) (by rw [hs]; omega)]
  have e1 : ((n : Int)).toNat = n := by omega
  have e2 : ((n : Int) + 1).toNat = n + 1 := by omega
  rw [e1, e2, digS_cut _ hn]
theorem dec_step {n : Nat} (h : ¬ n < 10) : Lib.decDigits n = Lib.decDigits (n / 10) ++ [UInt8.ofNat (48 + n % 10)] := by
  rw [Lib.decDigits, dif_neg h]
theorem ba_append (a b : ByteArray) : (a ++ b).data.toList = a.data.toList ++ b.data.toList := by simp
theorem bs_app (a b : List UInt8) : bs (a ++ b) = bs a ++ bs b := by
  apply ByteArray.ext
  simp [bs]
set_option maxRecDepth 20000 in
set_option maxHeartbeats 2000000 in
theorem wdigits_calls : ∀ (F N : Nat) (w : World), N < F → N ≤ 72057594037927936 → Calls Tryd.prog 76 #[.int .i64 (N : Int)] w fun e w' => e = .returned (.string (bs (Lib.decDigits N))) ∧ ∃ m, w' = w.drewN m
  | 0, _, _, h, _ => by omega
  | F + 1, N, w, hF, hN => by
    by_cases h10 : N < 10
    · have hd : decide ((N : Int) < 10) = true := by simp; omega
      have hcut := run_dig1 N h10
      have HD : Hid (digS N = bs (Lib.decDigits N)) := by show _ = _; rw [Lib.decDigits, dif_pos h10]; rfl
      generalize digS N = t at *
      generalize bs (Lib.decDigits N) = D at *
      clear h10 hF
      go_enter Tryd.func76, Tryd.ntmps76
      go_wp2
      go_ret
      exact ⟨congrArg (fun x => Ending.returned (.string x)) HD.out, 0, rfl⟩
    · have hd : decide ((N : Int) < 10) = false := by simp; omega
      have hcut := run_dig N
      have HI : Hid (∀ W, Calls Tryd.prog 76 #[.int .i64 ((N : Int) / 10)] W fun e w' => e = .returned (.string (bs (Lib.decDigits (N / 10)))) ∧ ∃ m, w' = W.drewN m) := fun W => by
        have := wdigits_calls F (N / 10) W (by omega) (by omega)
        rw [show (((N / 10 : Nat)) : Int) = (N : Int) / 10 by omega] at this
        exact this
      have HD : Hid (bs (Lib.decDigits N) = bs (Lib.decDigits (N / 10)) ++ digS (N % 10)) := by show _ = _; rw [dec_step h10, bs_app]; rfl
      have hsz : (digS (N % 10)).size = 1 := rfl
      have hlen : (bs (Lib.decDigits (N / 10))).size ≤ 22 := by
        have := Lib.itoa_length_le ((N / 10 : Nat) : Int) (by omega) (by omega)
        rw [Lib.itoa_nonneg] at this
        rw [← size_toList, bs_data]; omega
      have hcat : ∀ W, (Op.stringOp .add (bs (Lib.decDigits (N / 10))) (digS (N % 10))).run Tryd.prog W = .ok (.string (bs (Lib.decDigits (N / 10)) ++ digS (N % 10))) W := fun W => run_string_add_sum W _ _ (by rw [hsz]; omega)
      generalize digS (N % 10) = t1 at *
      generalize bs (Lib.decDigits N) = D at *
      generalize bs (Lib.decDigits (N / 10)) = D1 at *
      clear h10 hF hsz hlen
      go_enter Tryd.func76, Tryd.ntmps76
      go_wp2_with fail
      go_quiet ((go_at_call 76; exact Calls.quiet_of (HI.out _)))
      go_wp2
      go_ret
      exact ⟨congrArg (fun x => Ending.returned (.string x)) HD.out.symm, _, rfl⟩

end Go.Proofs.YtpeldiibjhffiaaDoor
