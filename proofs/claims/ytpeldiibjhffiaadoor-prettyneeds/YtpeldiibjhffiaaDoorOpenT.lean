/-
  Trees and expressions that are handed in, opened.
-/
import Derived.Deep.Slices
import Derived.SizedLaws
import Derived.Test.YtpeldiibjhffiaaDoorG11
namespace Go.Proofs.YtpeldiibjhffiaaDoor
open Go.RowKit Go.Deep

/-- As many as a list may have that is handed in. -/
def mxE : Nat := 2199023255552
/-- Each list within is short. -/
def fewF : Fo → Prop
  | .nil => True
  | .node _ _ _ k r => lenF k ≤ mxE ∧ fewF k ∧ fewF r
def fromQ (q : Nat → Ex) : Nat → Nat → Fo
  | 0, _ => .nil
  | n + 1, i => nd (q i).1 (q i).2 (fromQ q n (i + 1))
theorem int_in {n : Int} (h : (Lit.int .i64 n).wf = true) : InR n := by
  have h2 : -9223372036854775808 ≤ n ∧ n ≤ 9223372036854775807 := by simpa [Lit.wf, IntKind.min, IntKind.max, IntKind.signed, IntKind.bits] using h
  exact h2
theorem fewF_from (q : Nat → Ex) : ∀ (n i : Nat), (∀ j, i ≤ j → j < i + n → lenF (q j).2 ≤ mxE ∧ fewF (q j).2) → fewF (fromQ q n i)
  | 0, _, _ => trivial
  | n + 1, i, h => ⟨(h i (Nat.le_refl _) (by omega)).1, (h i (Nat.le_refl _) (by omega)).2, fewF_from q n (i + 1) fun j h1 h2 => h j (by omega) (by omega)⟩
theorem foAt_from {W : World} {b off : Nat} (q : Nat → Ex) : ∀ (n i : Nat), (∀ j, i ≤ j → j < i + n → HdOk (q j).1 ∧ ∃ ka kn kc, kn ≤ maxLen ∧ CellsAt W b (off + j * 5) (exCells (q j).1 ka kn kc) ∧ FoAt false (fun _ => True) W (q j).2 ka kn) →
    FoAt false (fun _ => True) W (fromQ q n i) (some ⟨b, off + i * 5, none⟩) n
  | 0, _, _ => rfl
  | n + 1, i, h => by
    obtain ⟨h1, ka, kn, kc, h2, h3, h4⟩ := h i (Nat.le_refl _) (by omega)
    refine ⟨b, off + i * 5, ka, kn, kc, n, rfl, rfl, trivial, (fun e => by cases e), h1, h2, h3, h4, ?_⟩
    have := foAt_from q n (i + 1) fun j h1 h2 => h j (by omega) (by omega)
    rw [show off + i * 5 + 5 = off + (i + 1) * 5 by omega]
    exact this
/-- A list of expressions that is handed in. -/
def OpenF (W : World) (cs : List Value) : Prop :=
  ∃ ao len cap F, cs = [.slice ao len cap] ∧ len ≤ mxE ∧ fewF F ∧ FoAt false (fun _ => True) W F ao len
/-- An expression that is handed in, as its cells. -/
def OpenE (W : World) (cs : List Value) : Prop :=
  ∃ (e : Ex) (ka : Option Addr) (kn kc : Nat), cs = exCells e.1 ka kn kc ∧ HdOk e.1 ∧ kn ≤ mxE ∧ fewF e.2 ∧ FoAt false (fun _ => True) W e.2 ka kn
theorem c33 : Tryd.prog.cellsOf 35 = 1 := by kernel_rfl
theorem c35 : Tryd.prog.cellsOf 40 = 5 := by kernel_rfl
theorem c42 : Tryd.prog.cellsOf 37 = 4 := by kernel_rfl
theorem c3 : Tryd.prog.cellsOf 3 = 1 := by kernel_rfl
theorem c9 : Tryd.prog.cellsOf 9 = 1 := by kernel_rfl
theorem c22 : Tryd.prog.cellsOf 22 = 1 := by kernel_rfl
theorem b35 : Tryd.prog.bytesOf 40 = 64 := by kernel_rfl
theorem b42 : Tryd.prog.bytesOf 37 = 56 := by kernel_rfl
theorem wall_mem {H : Type} {P : Program} {e : TypeId} : ∀ {l : List (DataW H)} {d : DataW H}, d ∈ l → ∀ n ∈ d.weights P e, n ∈ DataW.weightsAll P e l
  | d0 :: r, d, hd, n, hn => by
    simp only [DataW.weightsAll, List.mem_append]
    rcases List.mem_cons.1 hd with rfl | h
    · exact Or.inl hn
    · exact Or.inr (wall_mem h n hn)
section
variable {H : Type} {enc : TypeId × Value → H} {W : World} {base : Nat} {held : Bool}
set_option maxRecDepth 20000 in
theorem open_ex {fuel : Nat} (IH : ∀ f, f < fuel → ∀ (cs : List Value) (x : DataW H × List MemPlace), DataW.trod enc Tryd.prog W base (fun _ => true) held f 35 cs = some x → (∀ n ∈ x.1.weights Tryd.prog 35, n ≤ reachBytes) → OpenF W cs)
    {cs : List Value} {x : DataW H × List MemPlace} (hlen : cs.length = 5) (h : DataW.trod enc Tryd.prog W base (fun _ => true) held fuel 40 cs = some x) (hw : ∀ n ∈ x.1.weights Tryd.prog 40, n ≤ reachBytes) : OpenE W cs := by
  obtain ⟨xs, k, hk, hxy, _, hxl, hf⟩ := DataW.trod_struct Tryd.underlying40 h
  match cs, hlen with
  | [v0, v1, v2, v3, v4], _ =>
    have g0 := hf 0 _ rfl
    have g1 := hf 1 _ rfl
    have g2 := hf 2 _ rfl
    have g3 := hf 3 _ rfl
    have g4 := hf 4 _ rfl
    match xs, hxl with
    | [y0, y1, y2, y3, y4], _ =>
      simp [c9, c3, c33] at g0 g1 g2 g3 g4
      obtain ⟨s0, e0, _, z0⟩ := DataW.trod_int Tryd.underlying3 g0
      obtain ⟨s1, e1, _, z1⟩ := DataW.trod_int Tryd.underlying3 g1
      obtain ⟨s2, e2, _, z2⟩ := DataW.trod_string Tryd.underlying9 g2
      obtain ⟨s4, e4, _, z4⟩ := DataW.trod_int Tryd.underlying3 g4
      have hw3 : ∀ n ∈ y3.1.weights Tryd.prog 35, n ≤ reachBytes := fun n hn => hw n (by
        rw [hxy]
        simp only [DataW.weights, Tryd.underlying40]
        exact DataW.weights_mem_each (j := 3) (t := 35) (d := y3.1) rfl rfl n hn)
      obtain ⟨ao, len, cap, F, e3, q1, q2, q3⟩ := IH k (by omega) _ _ g3 hw3
      simp at e0 e1 e2 e3 e4
      subst e0 e1 e2 e3 e4
      refine ⟨(⟨s0, s1, s2.data.toList, s4⟩, F), ao, len, cap, ?_, ⟨int_in z0, int_in z1, by rw [size_toList]; exact z2, int_in z4⟩, q1, q2, q3⟩
      simp only [exCells]
      rw [bs_of]
set_option maxRecDepth 20000 in
theorem open_fo : ∀ (fuel : Nat) (cs : List Value) (x : DataW H × List MemPlace), DataW.trod enc Tryd.prog W base (fun _ => true) held fuel 35 cs = some x → (∀ n ∈ x.1.weights Tryd.prog 35, n ≤ reachBytes) → OpenF W cs := by
  intro fuel
  induction fuel using Nat.strongRecOn with
  | ind fuel IH =>
    intro cs x h hw
    rcases DataW.trod_slice Tryd.underlying35 h with ⟨rfl, _⟩ | ⟨a, len, cap, elems, rest, n, hn, rfl, rfl, hb, hl, hm, hlen, hel, hsp, _⟩
    · exact ⟨none, 0, 0, .nil, rfl, Nat.zero_le _, trivial, rfl⟩
    · have hwl : len ≤ mxE := by
        have := hw ((elems.length + rest.length) * 64) (by simp [DataW.weights, Tryd.underlying35, b35])
        unfold reachBytes at this
        unfold mxE
        omega
      have each : ∀ i, i < len → ∃ q : Ex, (HdOk q.1 ∧ ∃ ka kn kc, kn ≤ mxE ∧ fewF q.2 ∧ (∀ j u, (exCells q.1 ka kn kc)[j]? = some u → W.cell? (a.add (i * 5 + j)) = some u) ∧ FoAt false (fun _ => True) W q.2 ka kn) := by
        intro i hi
        have h1 := hel i hi
        have h2 : elems[i]? = some elems[i] := List.getElem?_eq_getElem (by omega)
        rw [h2, c35] at h1
        obtain ⟨cs', h3, h4⟩ := Option.bind_eq_some_iff.1 h1
        obtain ⟨_, hlen5, hcell⟩ := World.cells?_some h3
        obtain ⟨e, ka, kn, kc, rfl, hok, hkn, hfw, hfo⟩ := open_ex (fun f hf => IH f (by omega)) (by omega) h4 (fun m hm => hw m (by
          simp only [DataW.weights, Tryd.underlying35]
          refine List.mem_cons_of_mem _ (List.mem_append_left _ ?_)
          exact wall_mem (List.mem_map.2 ⟨elems[i], List.getElem_mem _, rfl⟩) m hm))
        refine ⟨e, hok, ka, kn, kc, hkn, hfw, fun j u hj => ?_, hfo⟩
        have hj5 : j < 5 := by have := (List.getElem?_eq_some_iff.1 hj).1; simpa [exCells] using this
        have := hcell j (by omega)
        rw [Deep.add_add] at this
        rw [this]; exact hj
      haveI : Inhabited Ex := ⟨(⟨0, 0, [], 0⟩, .nil)⟩
      obtain ⟨q, hq⟩ := Deep.choose_lt each
      by_cases h0 : len = 0
      · subst h0
        exact ⟨some a, 0, cap, .nil, rfl, Nat.zero_le _, trivial, rfl⟩
      obtain ⟨b, off, spot⟩ := a
      have hspot : spot = none := by
        obtain ⟨_, ka, kn, kc, _, _, hc, _⟩ := hq 0 (by omega)
        simpa [Addr.add] using World.cell?_spot (hc 0 _ rfl)
      subst hspot
      refine ⟨some ⟨b, off, none⟩, len, cap, fromQ q len 0, rfl, hwl, fewF_from q len 0 fun j _ hj => ?_, ?_⟩
      · obtain ⟨_, ka, kn, kc, h1, h2, _, h4⟩ := hq j (by omega)
        rw [← foAt_len h4]
        exact ⟨h1, h2⟩
      · have := foAt_from (W := W) (b := b) (off := off) q len 0 fun j _ hj => by
          obtain ⟨h1, ka, kn, kc, h2, _, h3, h4⟩ := hq j (by omega)
          refine ⟨h1, ka, kn, kc, by unfold mxE at h2; unfold maxLen; omega, fun i u hi => ?_, h4⟩
          have := h3 i u hi
          rw [Go.WideShapes.add_plain] at this
          rw [Nat.add_assoc]; exact this
        simpa using this
set_option maxRecDepth 20000 in
/-- As many as a tree may have that is handed in. -/
theorem open_it {fuel : Nat} {cs : List Value} {x : DataW H × List MemPlace} (hlen : cs.length = 4) (h : DataW.trod enc Tryd.prog W base (fun _ => true) held fuel 37 cs = some x) (hw : ∀ n ∈ x.1.weights Tryd.prog 37, n ≤ reachBytes) :
    ∃ (i : It) (ka : Option Addr) (kn kc : Nat), cs = itCells i ka kn kc ∧ ItOk i ∧ kn ≤ mxE ∧ fewF i.args ∧ FoAt false (fun _ => True) W i.args ka kn := by
  obtain ⟨xs, k, hk, hxy, _, hxl, hf⟩ := DataW.trod_struct Tryd.underlying37 h
  match cs, hlen with
  | [v0, v1, v2, v3], _ =>
    have g0 := hf 0 _ rfl
    have g1 := hf 1 _ rfl
    have g2 := hf 2 _ rfl
    have g3 := hf 3 _ rfl
    match xs, hxl with
    | [y0, y1, y2, y3], _ =>
      simp [c9, c3, c33] at g0 g1 g2 g3
      obtain ⟨s0, e0, _, z0⟩ := DataW.trod_int Tryd.underlying3 g0
      obtain ⟨s1, e1, _, z1⟩ := DataW.trod_string Tryd.underlying9 g1
      obtain ⟨s3, e3, _, z3⟩ := DataW.trod_int Tryd.underlying3 g3
      have hw2 : ∀ n ∈ y2.1.weights Tryd.prog 35, n ≤ reachBytes := fun n hn => hw n (by
        rw [hxy]
        simp only [DataW.weights, Tryd.underlying37]
        exact DataW.weights_mem_each (j := 2) (t := 35) (d := y2.1) rfl rfl n hn)
      obtain ⟨ao, len, cap, F, e2, q1, q2, q3⟩ := open_fo k _ _ g2 hw2
      simp at e0 e1 e2 e3
      subst e0 e1 e2 e3
      refine ⟨⟨s0, s1.data.toList, F, s3⟩, ao, len, cap, ?_, ⟨int_in z0, by rw [size_toList]; exact z1, int_in z3⟩, q1, q2, q3⟩
      simp only [itCells]
      rw [bs_of]
end
theorem itsAt_from {W : World} {b off : Nat} (q : Nat → It) : ∀ (n i : Nat), (∀ j, i ≤ j → j < i + n → ItOk (q j) ∧ ∃ ka kn kc, kn ≤ maxLen ∧ CellsAt W b (off + j * 4) (itCells (q j) ka kn kc) ∧ FoAt false (fun _ => True) W (q j).args ka kn) →
    ItsAt false (fun _ => True) W ((List.range' i n).map q) (some ⟨b, off + i * 4, none⟩) n
  | 0, _, _ => rfl
  | n + 1, i, h => by
    obtain ⟨h1, ka, kn, kc, h2, h3, h4⟩ := h i (Nat.le_refl _) (by omega)
    refine ⟨b, off + i * 4, ka, kn, kc, n, rfl, rfl, trivial, (fun e => by cases e), h1, h2, h3, h4, ?_⟩
    have := itsAt_from q n (i + 1) fun j h1 h2 => h j (by omega) (by omega)
    rw [show off + i * 4 + 4 = off + (i + 1) * 4 by omega]
    exact this
def mxI : Nat := 2513169434884
/-- A tree that is handed in. -/
structure TreeIn (W : World) (L : List It) (ao : Option Addr) (len : Nat) : Prop where
  few : len ≤ mxI
  each : ∀ i ∈ L, lenF i.args ≤ mxE ∧ fewF i.args
  its : ItsAt false (fun _ => True) W L ao len
section
variable {H : Type} {enc : TypeId × Value → H} {W : World} {base : Nat} {held : Bool}
set_option maxRecDepth 20000 in
theorem open_its {fuel : Nat} {cs : List Value} {x : DataW H × List MemPlace} (h : DataW.trod enc Tryd.prog W base (fun _ => true) held fuel 22 cs = some x) (hw : ∀ n ∈ x.1.weights Tryd.prog 22, n ≤ reachBytes) :
    ∃ ao len cap L, cs = [.slice ao len cap] ∧ TreeIn W L ao len := by
  rcases DataW.trod_slice Tryd.underlying22 h with ⟨rfl, _⟩ | ⟨a, len, cap, elems, rest, n, hn, rfl, rfl, hb, hl, hm, hlen, hel, hsp, _⟩
  · exact ⟨none, 0, 0, [], rfl, Nat.zero_le _, (fun _ h => by cases h), rfl⟩
  · have hwl : len ≤ mxI := by
      have := hw ((elems.length + rest.length) * 56) (by simp [DataW.weights, Tryd.underlying22, b42])
      unfold reachBytes at this
      unfold mxI
      omega
    have each : ∀ i, i < len → ∃ q : It, (ItOk q ∧ ∃ ka kn kc, kn ≤ mxE ∧ fewF q.args ∧ (∀ j u, (itCells q ka kn kc)[j]? = some u → W.cell? (a.add (i * 4 + j)) = some u) ∧ FoAt false (fun _ => True) W q.args ka kn) := by
      intro i hi
      have h1 := hel i hi
      have h2 : elems[i]? = some elems[i] := List.getElem?_eq_getElem (by omega)
      rw [h2, c42] at h1
      obtain ⟨cs', h3, h4⟩ := Option.bind_eq_some_iff.1 h1
      obtain ⟨_, hlen5, hcell⟩ := World.cells?_some h3
      obtain ⟨e, ka, kn, kc, rfl, hok, hkn, hfw, hfo⟩ := open_it (by omega) h4 (fun m hm => hw m (by
        simp only [DataW.weights, Tryd.underlying22]
        refine List.mem_cons_of_mem _ (List.mem_append_left _ ?_)
        exact wall_mem (List.mem_map.2 ⟨elems[i], List.getElem_mem _, rfl⟩) m hm))
      refine ⟨e, hok, ka, kn, kc, hkn, hfw, fun j u hj => ?_, hfo⟩
      have hj5 : j < 4 := by have := (List.getElem?_eq_some_iff.1 hj).1; simpa [itCells] using this
      have := hcell j (by omega)
      rw [Deep.add_add] at this
      rw [this]; exact hj
    haveI : Inhabited It := ⟨⟨0, [], .nil, 0⟩⟩
    obtain ⟨q, hq⟩ := Deep.choose_lt each
    by_cases h0 : len = 0
    · subst h0
      exact ⟨some a, 0, cap, [], rfl, Nat.zero_le _, (fun _ h => by cases h), rfl⟩
    obtain ⟨b, off, spot⟩ := a
    have hspot : spot = none := by
      obtain ⟨_, ka, kn, kc, _, _, hc, _⟩ := hq 0 (by omega)
      simpa [Addr.add] using World.cell?_spot (hc 0 _ rfl)
    subst hspot
    refine ⟨some ⟨b, off, none⟩, len, cap, (List.range' 0 len).map q, rfl, hwl, fun i hi => ?_, ?_⟩
    · obtain ⟨j, hj, rfl⟩ := List.mem_map.1 hi
      have hj' : j < len := by simpa using hj
      obtain ⟨_, ka, kn, kc, h1, h2, _, h4⟩ := hq j hj'
      rw [← foAt_len h4]
      exact ⟨h1, h2⟩
    · have := itsAt_from (W := W) (b := b) (off := off) q len 0 fun j _ hj => by
        obtain ⟨h1, ka, kn, kc, h2, _, h3, h4⟩ := hq j (by omega)
        refine ⟨h1, ka, kn, kc, by unfold mxE at h2; unfold maxLen; omega, fun i u hi => ?_, h4⟩
        have := h3 i u hi
        rw [Go.WideShapes.add_plain] at this
        rw [Nat.add_assoc]; exact this
      simpa using this
set_option maxRecDepth 20000 in
theorem open_tree {fuel : Nat} {cs : List Value} {x : DataW H × List MemPlace} (hlen : cs.length = 1) (h : DataW.trod enc Tryd.prog W base (fun _ => true) held fuel 24 cs = some x) (hw : ∀ n ∈ x.1.weights Tryd.prog 24, n ≤ reachBytes) :
    ∃ ao len cap L, cs = [.slice ao len cap] ∧ TreeIn W L ao len := by
  obtain ⟨xs, k, hk, hxy, _, hxl, hf⟩ := DataW.trod_struct Tryd.underlying24 h
  match cs, hlen with
  | [v0], _ =>
    have g0 := hf 0 _ rfl
    match xs, hxl with
    | [y0], _ =>
      simp [c22] at g0
      exact open_its g0 fun n hn => hw n (by
        rw [hxy]
        simp only [DataW.weights, Tryd.underlying24]
        exact DataW.weights_mem_each (j := 0) (t := 22) (d := y0.1) rfl rfl n hn)
set_option maxRecDepth 20000 in
theorem open_expr {fuel : Nat} {cs : List Value} {x : DataW H × List MemPlace} (hlen : cs.length = 5) (h : DataW.trod enc Tryd.prog W base (fun _ => true) held fuel 40 cs = some x) (hw : ∀ n ∈ x.1.weights Tryd.prog 40, n ≤ reachBytes) : OpenE W cs :=
  open_ex (fun f _ => open_fo f) hlen h hw
end
end Go.Proofs.YtpeldiibjhffiaaDoor
