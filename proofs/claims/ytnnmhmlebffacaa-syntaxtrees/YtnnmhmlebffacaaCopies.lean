/-
  Trees and expressions that are handed in, opened. Copies: kids, copied. Copies: copied.
-/
import Derived.Deep.Slices
import Derived.SizedLaws
import Derived.Test.YtnnmhmlebffacaaSrcM
import Derived.Test.YtnnmhmlebffacaaSrc
import Derived.Test.YtnnmhmlebffacaaDeep
namespace Go.Proofs.Ytnnmhmlebffacaa
open Go.RowKit Go.Deep

/-- As many as a list may have that is handed in. -/
def mxE : Nat := 2199023255552
/-- Each list within is short. -/
def fewF : Fo → Prop
  | .nil => True
  | .node _ _ _ k r => lenF k ≤ mxE ∧ fewF k ∧ fewF r
def fromQ (q : Nat → Ex) : Nat → Nat → Fo
  | 0, _ => .nil
  | n + 1, i => nd (q i).1 (q i).2 (fromQ q n (i + 1))
theorem int_in {n : Int} (h : (Lit.int .i64 n).wf = true) : InR n := by
  have h2 : -9223372036854775808 ≤ n ∧ n ≤ 9223372036854775807 := by simpa [Lit.wf, IntKind.min, IntKind.max, IntKind.signed, IntKind.bits] using h
  exact h2
theorem fewF_from (q : Nat → Ex) : ∀ (n i : Nat), (∀ j, i ≤ j → j < i + n → lenF (q j).2 ≤ mxE ∧ fewF (q j).2) → fewF (fromQ q n i)
  | 0, _, _ => trivial
  | n + 1, i, h => ⟨(h i (Nat.le_refl _) (by omega)).1, (h i (Nat.le_refl _) (by omega)).2, fewF_from q n (i + 1) fun j h1 h2 => h j (by omega) (by omega)⟩
theorem foAt_from {W : World} {b off : Nat} (q : Nat → Ex) : ∀ (n i : Nat), (∀ j, i ≤ j → j < i + n → HdOk (q j).1 ∧ ∃ ka kn kc, kn ≤ maxLen ∧ CellsAt W b (off + j * 5) (exCells (q j).1 ka kn kc) ∧ FoAt false (fun _ => True) W (q j).2 ka kn) →
    FoAt false (fun _ => True) W (fromQ q n i) (some ⟨b, off + i * 5, none⟩) n
  | 0, _, _ => rfl
  | n + 1, i, h => by
    obtain ⟨h1, ka, kn, kc, h2, h3, h4⟩ := h i (Nat.le_refl _) (by omega)
    refine ⟨b, off + i * 5, ka, kn, kc, n, rfl, rfl, trivial, (fun e => by cases e), h1, h2, h3, h4, ?_⟩
    have := foAt_from q n (i + 1) fun j h1 h2 => h j (by omega) (by omega)
    rw [show off + i * 5 + 5 = off + (i + 1) * 5 by omega]
    exact this
/-- A list of expressions that is handed in. -/
def OpenF (W : World) (cs : List Value) : Prop :=
  ∃ ao len cap F, cs = [.slice ao len cap] ∧ len ≤ mxE ∧ fewF F ∧ FoAt false (fun _ => True) W F ao len
/-- An expression that is handed in, as its cells. -/
def OpenE (W : World) (cs : List Value) : Prop :=
  ∃ (e : Ex) (ka : Option Addr) (kn kc : Nat), cs = exCells e.1 ka kn kc ∧ HdOk e.1 ∧ kn ≤ mxE ∧ fewF e.2 ∧ FoAt false (fun _ => True) W e.2 ka kn
theorem c33 : Try.prog.cellsOf 33 = 1 := by kernel_rfl
theorem c35 : Try.prog.cellsOf 35 = 5 := by kernel_rfl
theorem c42 : Try.prog.cellsOf 42 = 4 := by kernel_rfl
theorem c3 : Try.prog.cellsOf 3 = 1 := by kernel_rfl
theorem c9 : Try.prog.cellsOf 9 = 1 := by kernel_rfl
theorem c22 : Try.prog.cellsOf 22 = 1 := by kernel_rfl
theorem b35 : Try.prog.bytesOf 35 = 64 := by kernel_rfl
theorem b42 : Try.prog.bytesOf 42 = 56 := by kernel_rfl
theorem wall_mem {H : Type} {P : Program} {e : TypeId} : ∀ {l : List (DataW H)} {d : DataW H}, d ∈ l → ∀ n ∈ d.weights P e, n ∈ DataW.weightsAll P e l
  | d0 :: r, d, hd, n, hn => by
    simp only [DataW.weightsAll, List.mem_append]
    rcases List.mem_cons.1 hd with rfl | h
    · exact Or.inl hn
    · exact Or.inr (wall_mem h n hn)
section
variable {H : Type} {enc : TypeId × Value → H} {W : World} {base : Nat} {held : Bool}
set_option maxRecDepth 20000 in
theorem open_ex {fuel : Nat} (IH : ∀ f, f < fuel → ∀ (cs : List Value) (x : DataW H × List MemPlace), DataW.trod enc Try.prog W base (fun _ => true) held f 33 cs = some x → (∀ n ∈ x.1.weights Try.prog 33, n ≤ reachBytes) → OpenF W cs)
    {cs : List Value} {x : DataW H × List MemPlace} (hlen : cs.length = 5) (h : DataW.trod enc Try.prog W base (fun _ => true) held fuel 35 cs = some x) (hw : ∀ n ∈ x.1.weights Try.prog 35, n ≤ reachBytes) : OpenE W cs := by
  obtain ⟨xs, k, hk, hxy, _, hxl, hf⟩ := DataW.trod_struct Try.underlying35 h
  match cs, hlen with
  | [v0, v1, v2, v3, v4], _ =>
    have g0 := hf 0 _ rfl
    have g1 := hf 1 _ rfl
    have g2 := hf 2 _ rfl
    have g3 := hf 3 _ rfl
    have g4 := hf 4 _ rfl
    match xs, hxl with
    | [y0, y1, y2, y3, y4], _ =>
      simp [c9, c3, c33] at g0 g1 g2 g3 g4
      obtain ⟨s0, e0, _, z0⟩ := DataW.trod_int Try.underlying3 g0
      obtain ⟨s1, e1, _, z1⟩ := DataW.trod_int Try.underlying3 g1
      obtain ⟨s2, e2, _, z2⟩ := DataW.trod_string Try.underlying9 g2
      obtain ⟨s4, e4, _, z4⟩ := DataW.trod_int Try.underlying3 g4
      have hw3 : ∀ n ∈ y3.1.weights Try.prog 33, n ≤ reachBytes := fun n hn => hw n (by
        rw [hxy]
        simp only [DataW.weights, Try.underlying35]
        exact DataW.weights_mem_each (j := 3) (t := 33) (d := y3.1) rfl rfl n hn)
      obtain ⟨ao, len, cap, F, e3, q1, q2, q3⟩ := IH k (by omega) _ _ g3 hw3
      simp at e0 e1 e2 e3 e4
      subst e0 e1 e2 e3 e4
      refine ⟨(⟨s0, s1, s2.data.toList, s4⟩, F), ao, len, cap, ?_, ⟨int_in z0, int_in z1, by rw [size_toList]; exact z2, int_in z4⟩, q1, q2, q3⟩
      simp only [exCells]
      rw [bs_of]
set_option maxRecDepth 20000 in
theorem open_fo : ∀ (fuel : Nat) (cs : List Value) (x : DataW H × List MemPlace), DataW.trod enc Try.prog W base (fun _ => true) held fuel 33 cs = some x → (∀ n ∈ x.1.weights Try.prog 33, n ≤ reachBytes) → OpenF W cs := by
  intro fuel
  induction fuel using Nat.strongRecOn with
  | ind fuel IH =>
    intro cs x h hw
    rcases DataW.trod_slice Try.underlying33 h with ⟨rfl, _⟩ | ⟨a, len, cap, elems, rest, n, hn, rfl, rfl, hb, hl, hm, hlen, hel, hsp, _⟩
    · exact ⟨none, 0, 0, .nil, rfl, Nat.zero_le _, trivial, rfl⟩
    · have hwl : len ≤ mxE := by
        have := hw ((elems.length + rest.length) * 64) (by simp [DataW.weights, Try.underlying33, b35])
        unfold reachBytes at this
        unfold mxE
        omega
      have each : ∀ i, i < len → ∃ q : Ex, (HdOk q.1 ∧ ∃ ka kn kc, kn ≤ mxE ∧ fewF q.2 ∧ (∀ j u, (exCells q.1 ka kn kc)[j]? = some u → W.cell? (a.add (i * 5 + j)) = some u) ∧ FoAt false (fun _ => True) W q.2 ka kn) := by
        intro i hi
        have h1 := hel i hi
        have h2 : elems[i]? = some elems[i] := List.getElem?_eq_getElem (by omega)
        rw [h2, c35] at h1
        obtain ⟨cs', h3, h4⟩ := Option.bind_eq_some_iff.1 h1
        obtain ⟨_, hlen5, hcell⟩ := World.cells?_some h3
        obtain ⟨e, ka, kn, kc, rfl, hok, hkn, hfw, hfo⟩ := open_ex (fun f hf => IH f (by omega)) (by omega) h4 (fun m hm => hw m (by
          simp only [DataW.weights, Try.underlying33]
          refine List.mem_cons_of_mem _ (List.mem_append_left _ ?_)
          exact wall_mem (List.mem_map.2 ⟨elems[i], List.getElem_mem _, rfl⟩) m hm))
        refine ⟨e, hok, ka, kn, kc, hkn, hfw, fun j u hj => ?_, hfo⟩
        have hj5 : j < 5 := by have := (List.getElem?_eq_some_iff.1 hj).1; simpa [exCells] using this
        have := hcell j (by omega)
        rw [Deep.add_add] at this
        rw [this]; exact hj
      haveI : Inhabited Ex := ⟨(⟨0, 0, [], 0⟩, .nil)⟩
      obtain ⟨q, hq⟩ := Deep.choose_lt each
      by_cases h0 : len = 0
      · subst h0
        exact ⟨some a, 0, cap, .nil, rfl, Nat.zero_le _, trivial, rfl⟩
      obtain ⟨b, off, spot⟩ := a
      have hspot : spot = none := by
        obtain ⟨_, ka, kn, kc, _, _, hc, _⟩ := hq 0 (by omega)
        simpa [Addr.add] using World.cell?_spot (hc 0 _ rfl)
      subst hspot
      refine ⟨some ⟨b, off, none⟩, len, cap, fromQ q len 0, rfl, hwl, fewF_from q len 0 fun j _ hj => ?_, ?_⟩
      · obtain ⟨_, ka, kn, kc, h1, h2, _, h4⟩ := hq j (by omega)
        rw [← foAt_len h4]
        exact ⟨h1, h2⟩
      · have := foAt_from (W := W) (b := b) (off := off) q len 0 fun j _ hj => by
          obtain ⟨h1, ka, kn, kc, h2, _, h3, h4⟩ := hq j (by omega)
          refine ⟨h1, ka, kn, kc, by unfold mxE at h2; unfold maxLen; omega, fun i u hi => ?_, h4⟩
          have := h3 i u hi
          rw [Go.WideShapes.add_plain] at this
          rw [Nat.add_assoc]; exact this
        simpa using this
/-- As many as a tree may have that is handed in. -/
theorem open_it {fuel : Nat} {cs : List Value} {x : DataW H × List MemPlace} (hlen : cs.length = 4) (h : DataW.trod enc Try.prog W base (fun _ => true) held fuel 42 cs = some x) (hw : ∀ n ∈ x.1.weights Try.prog 42, n ≤ reachBytes) :
    ∃ (i : It) (ka : Option Addr) (kn kc : Nat), cs = itCells i ka kn kc ∧ ItOk i ∧ kn ≤ mxE ∧ fewF i.args ∧ FoAt false (fun _ => True) W i.args ka kn := by
  obtain ⟨xs, k, hk, hxy, _, hxl, hf⟩ := DataW.trod_struct Try.underlying42 h
  match cs, hlen with
  | [v0, v1, v2, v3], _ =>
    have g0 := hf 0 _ rfl
    have g1 := hf 1 _ rfl
    have g2 := hf 2 _ rfl
    have g3 := hf 3 _ rfl
    match xs, hxl with
    | [y0, y1, y2, y3], _ =>
      simp [c9, c3, c33] at g0 g1 g2 g3
      obtain ⟨s0, e0, _, z0⟩ := DataW.trod_int Try.underlying3 g0
      obtain ⟨s1, e1, _, z1⟩ := DataW.trod_string Try.underlying9 g1
      obtain ⟨s3, e3, _, z3⟩ := DataW.trod_int Try.underlying3 g3
      have hw2 : ∀ n ∈ y2.1.weights Try.prog 33, n ≤ reachBytes := fun n hn => hw n (by
        rw [hxy]
        simp only [DataW.weights, Try.underlying42]
        exact DataW.weights_mem_each (j := 2) (t := 33) (d := y2.1) rfl rfl n hn)
      obtain ⟨ao, len, cap, F, e2, q1, q2, q3⟩ := open_fo k _ _ g2 hw2
      simp at e0 e1 e2 e3
      subst e0 e1 e2 e3
      refine ⟨⟨s0, s1.data.toList, F, s3⟩, ao, len, cap, ?_, ⟨int_in z0, by rw [size_toList]; exact z1, int_in z3⟩, q1, q2, q3⟩
      simp only [itCells]
      rw [bs_of]
end
theorem itsAt_from {W : World} {b off : Nat} (q : Nat → It) : ∀ (n i : Nat), (∀ j, i ≤ j → j < i + n → ItOk (q j) ∧ ∃ ka kn kc, kn ≤ maxLen ∧ CellsAt W b (off + j * 4) (itCells (q j) ka kn kc) ∧ FoAt false (fun _ => True) W (q j).args ka kn) →
    ItsAt false (fun _ => True) W ((List.range' i n).map q) (some ⟨b, off + i * 4, none⟩) n
  | 0, _, _ => rfl
  | n + 1, i, h => by
    obtain ⟨h1, ka, kn, kc, h2, h3, h4⟩ := h i (Nat.le_refl _) (by omega)
    refine ⟨b, off + i * 4, ka, kn, kc, n, rfl, rfl, trivial, (fun e => by cases e), h1, h2, h3, h4, ?_⟩
    have := itsAt_from q n (i + 1) fun j h1 h2 => h j (by omega) (by omega)
    rw [show off + i * 4 + 4 = off + (i + 1) * 4 by omega]
    exact this
def mxI : Nat := 2513169434884
/-- A tree that is handed in. -/
structure TreeIn (W : World) (L : List It) (ao : Option Addr) (len : Nat) : Prop where
  few : len ≤ mxI
  each : ∀ i ∈ L, lenF i.args ≤ mxE ∧ fewF i.args
  its : ItsAt false (fun _ => True) W L ao len
section
variable {H : Type} {enc : TypeId × Value → H} {W : World} {base : Nat} {held : Bool}
set_option maxRecDepth 20000 in
theorem open_its {fuel : Nat} {cs : List Value} {x : DataW H × List MemPlace} (h : DataW.trod enc Try.prog W base (fun _ => true) held fuel 22 cs = some x) (hw : ∀ n ∈ x.1.weights Try.prog 22, n ≤ reachBytes) :
    ∃ ao len cap L, cs = [.slice ao len cap] ∧ TreeIn W L ao len := by
  rcases DataW.trod_slice Try.underlying22 h with ⟨rfl, _⟩ | ⟨a, len, cap, elems, rest, n, hn, rfl, rfl, hb, hl, hm, hlen, hel, hsp, _⟩
  · exact ⟨none, 0, 0, [], rfl, Nat.zero_le _, (fun _ h => by cases h), rfl⟩
  · have hwl : len ≤ mxI := by
      have := hw ((elems.length + rest.length) * 56) (by simp [DataW.weights, Try.underlying22, b42])
      unfold reachBytes at this
      unfold mxI
      omega
    have each : ∀ i, i < len → ∃ q : It, (ItOk q ∧ ∃ ka kn kc, kn ≤ mxE ∧ fewF q.args ∧ (∀ j u, (itCells q ka kn kc)[j]? = some u → W.cell? (a.add (i * 4 + j)) = some u) ∧ FoAt false (fun _ => True) W q.args ka kn) := by
      intro i hi
      have h1 := hel i hi
      have h2 : elems[i]? = some elems[i] := List.getElem?_eq_getElem (by omega)
      rw [h2, c42] at h1
      obtain ⟨cs', h3, h4⟩ := Option.bind_eq_some_iff.1 h1
      obtain ⟨_, hlen5, hcell⟩ := World.cells?_some h3
      obtain ⟨e, ka, kn, kc, rfl, hok, hkn, hfw, hfo⟩ := open_it (by omega) h4 (fun m hm => hw m (by
        simp only [DataW.weights, Try.underlying22]
        refine List.mem_cons_of_mem _ (List.mem_append_left _ ?_)
        exact wall_mem (List.mem_map.2 ⟨elems[i], List.getElem_mem _, rfl⟩) m hm))
      refine ⟨e, hok, ka, kn, kc, hkn, hfw, fun j u hj => ?_, hfo⟩
      have hj5 : j < 4 := by have := (List.getElem?_eq_some_iff.1 hj).1; simpa [itCells] using this
      have := hcell j (by omega)
      rw [Deep.add_add] at this
      rw [this]; exact hj
    haveI : Inhabited It := ⟨⟨0, [], .nil, 0⟩⟩
    obtain ⟨q, hq⟩ := Deep.choose_lt each
    by_cases h0 : len = 0
    · subst h0
      exact ⟨some a, 0, cap, [], rfl, Nat.zero_le _, (fun _ h => by cases h), rfl⟩
    obtain ⟨b, off, spot⟩ := a
    have hspot : spot = none := by
      obtain ⟨_, ka, kn, kc, _, _, hc, _⟩ := hq 0 (by omega)
      simpa [Addr.add] using World.cell?_spot (hc 0 _ rfl)
    subst hspot
    refine ⟨some ⟨b, off, none⟩, len, cap, (List.range' 0 len).map q, rfl, hwl, fun i hi => ?_, ?_⟩
    · obtain ⟨j, hj, rfl⟩ := List.mem_map.1 hi
      have hj' : j < len := by simpa using hj
      obtain ⟨_, ka, kn, kc, h1, h2, _, h4⟩ := hq j hj'
      rw [← foAt_len h4]
      exact ⟨h1, h2⟩
    · have := itsAt_from (W := W) (b := b) (off := off) q len 0 fun j _ hj => by
        obtain ⟨h1, ka, kn, kc, h2, _, h3, h4⟩ := hq j (by omega)
        refine ⟨h1, ka, kn, kc, by unfold mxE at h2; unfold maxLen; omega, fun i u hi => ?_, h4⟩
        have := h3 i u hi
        rw [Go.WideShapes.add_plain] at this
        rw [Nat.add_assoc]; exact this
      simpa using this
theorem open_tree {fuel : Nat} {cs : List Value} {x : DataW H × List MemPlace} (hlen : cs.length = 1) (h : DataW.trod enc Try.prog W base (fun _ => true) held fuel 24 cs = some x) (hw : ∀ n ∈ x.1.weights Try.prog 24, n ≤ reachBytes) :
    ∃ ao len cap L, cs = [.slice ao len cap] ∧ TreeIn W L ao len := by
  obtain ⟨xs, k, hk, hxy, _, hxl, hf⟩ := DataW.trod_struct Try.underlying24 h
  match cs, hlen with
  | [v0], _ =>
    have g0 := hf 0 _ rfl
    match xs, hxl with
    | [y0], _ =>
      simp [c22] at g0
      exact open_its g0 fun n hn => hw n (by
        rw [hxy]
        simp only [DataW.weights, Try.underlying24]
        exact DataW.weights_mem_each (j := 0) (t := 22) (d := y0.1) rfl rfl n hn)
theorem open_expr {fuel : Nat} {cs : List Value} {x : DataW H × List MemPlace} (hlen : cs.length = 5) (h : DataW.trod enc Try.prog W base (fun _ => true) held fuel 35 cs = some x) (hw : ∀ n ∈ x.1.weights Try.prog 35, n ≤ reachBytes) : OpenE W cs :=
  open_ex (fun f _ => open_fo f) hlen h hw
end
end Go.Proofs.Ytnnmhmlebffacaa
namespace Go.Proofs.Ytnnmhmlebffacaa
open Go.RowKit Go.Deep

theorem keepq {W W' : World} {b : Nat} (h : Below b W W') {p : Addr} {u : Value} (hp : p.block < b) (hc : W.cell? p = some u) : W'.cell? p = some u := by
  rw [World.cell?_of_block (w := W) (h.block p.block hp)]; exact hc
/-- A list of expressions without the marks that its tree carries. -/
def clean : Fo → Fo
  | .nil => .nil
  | .node _ _ h k r => nd h (clean k) (clean r)
theorem clean_at {o : Bool} {S : Nat → Prop} {w : World} : ∀ {F : Fo} {ao : Option Addr} {n : Nat}, FoAt o S w (clean F) ao n ↔ FoAt o S w F ao n
  | .nil, _, _ => Iff.rfl
  | .node _ _ h k r, ao, n => by
    constructor
    · rintro ⟨g, off, ka, kn, kc, m, h1, h2, h3, h4, h5, h6, h7, h8, h9⟩
      exact ⟨g, off, ka, kn, kc, m, h1, h2, h3, h4, h5, h6, h7, clean_at.1 h8, clean_at.1 h9⟩
    · rintro ⟨g, off, ka, kn, kc, m, h1, h2, h3, h4, h5, h6, h7, h8, h9⟩
      exact ⟨g, off, ka, kn, kc, m, h1, h2, h3, h4, h5, h6, h7, clean_at.2 h8, clean_at.2 h9⟩
def appL : List Ex → Fo → Fo
  | [], G => G
  | e :: r, G => nd e.1 e.2 (appL r G)
theorem appL_nil : ∀ l, appL l .nil = ofL l
  | [] => rfl
  | e :: r => by simp only [appL, ofL]; rw [appL_nil r]
theorem appL_more (e : Ex) (G : Fo) : ∀ l, appL (l ++ [e]) G = appL l (nd e.1 e.2 G)
  | [] => rfl
  | _ :: r => by simp only [appL, List.cons_append]; rw [appL_more e G r]
theorem cell_x_set (w3 : World) (p : Addr) (u0 : Value) (x : Xs) : ∀ (i : Nat) (u : Value), (xsCells x)[i]? = some u → ((w3.setCell p u0).alloc (.cells #[.int .i64 x.1.1.kind, .int .i64 x.1.1.num, .string (bs x.1.1.text), .slice x.2.1 x.2.2.1 x.2.2.2, .int .i64 x.1.1.pl] 35)).cell? ((⟨w3.heap.size, 0, none⟩ : Addr).add i) = some u := by
  intro i u hi
  have := cell_x_new (w3.setCell p u0) x i u hi
  rw [show (w3.setCell p u0).heap.size = w3.heap.size by simp [World.setCell]] at this
  exact this
theorem cell_i_set (w3 : World) (p : Addr) (u0 : Value) (x : Is) : ∀ (i : Nat) (u : Value), (isCells x)[i]? = some u → ((w3.setCell p u0).alloc (.cells #[.int .i64 x.1.kind, .string (bs x.1.name), .slice x.2.1 x.2.2.1 x.2.2.2, .int .i64 x.1.pl] 42)).cell? ((⟨w3.heap.size, 0, none⟩ : Addr).add i) = some u := by
  intro i u hi
  have := cell_i_new (w3.setCell p u0) x i u hi
  rw [show (w3.setCell p u0).heap.size = w3.heap.size by simp [World.setCell]] at this
  exact this
structure CpL (w : World) (xs : List Xs) (v : Value) (n : Nat) (W : World) : Prop where
  low : Below w.heap.size w W
  own : W.ownsRow w.heap.size 35 5 v n (xRow xs)
  ex : ∀ x ∈ xs, ExAt true (fun g => w.heap.size ≤ g ∧ some g ≠ v.ownBlock) W x.1 x.2.1 x.2.2.1
theorem CpL.start (w : World) : CpL w [] (.slice none 0 0) 0 w := ⟨Below.refl _ _, World.ownsRow_nil _ _ _ _, fun x h => by cases h⟩
section
variable {w : World} {xs : List Xs} {v : Value} {n : Nat} {W W' : World}
theorem CpL.next (h : CpL w xs v n W) (hk : Below W.heap.size W W') : CpL w xs v n W' :=
  ⟨h.low.trans (hk.mono h.low.size), owned_of_block h.own fun g _ _ hc => hk.block g (lt_block hc), fun x hx => (h.ex x hx).below hk⟩
theorem CpL.len (h : CpL w xs v n W) : n = xs.length := by have := h.own.1; rw [xRow_length] at this; omega
theorem CpL.add (h : CpL w xs v n W) {x : Xs} (hx : ExAt true (fun g => w.heap.size ≤ g ∧ some g ≠ v.ownBlock) W x.1 x.2.1 x.2.2.1) {v' : Value} {w4 : World}
    (ho : w4.ownsRow w.heap.size 35 5 v' (n + 1) (xRow xs ++ xsCells x)) (hg : W.grownBy w4 v.ownBlock) (hf : ∀ g, v'.ownBlock = some g → some g = v.ownBlock ∨ W.heap.size ≤ g) : CpL w (xs ++ [x]) v' (n + 1) w4 := by
  have hkeep : ∀ g, g < W.heap.size → (w.heap.size ≤ g ∧ some g ≠ v.ownBlock) → w4.heap[g]? = W.heap[g]? := fun g h1 h2 => hg.block g h1 h2.2
  have hbase : ∀ g, g < W.heap.size → (w.heap.size ≤ g ∧ some g ≠ v.ownBlock) → (w.heap.size ≤ g ∧ some g ≠ v'.ownBlock) := fun g h1 h2 => by
    refine ⟨h2.1, fun e => ?_⟩
    rcases hf g e.symm with h3 | h3
    · exact h2.2 h3
    · omega
  refine ⟨Below.grown h.low hg h.low.size (fun k hk => (h.own.lt k hk).1), by rw [xRow_snoc]; exact ho, fun y hy => ?_⟩
  have hE : ExAt true (fun g => w.heap.size ≤ g ∧ some g ≠ v.ownBlock) W y.1 y.2.1 y.2.2.1 := by
    rcases List.mem_append.1 hy with hy | hy
    · exact h.ex y hy
    · rw [List.mem_singleton.1 hy]; exact hx
  have h1 : ExAt true (fun g => (w.heap.size ≤ g ∧ some g ≠ v.ownBlock) ∧ (w.heap.size ≤ g ∧ some g ≠ v'.ownBlock)) W y.1 y.2.1 y.2.2.1 := hE.base fun g h1 h2 => ⟨h2, hbase g h1 h2⟩
  exact (h1.keep fun g h2 h3 => hkeep g h2 h3.1).base fun g _ h2 => h2.2
end
/-- What a copy leaves: a list of its own memory. -/
def CopyPost (F : Fo) (w : World) (e : Ending) (w' : World) : Prop :=
  ∃ ao n c, e = .returned (.slice ao n c) ∧ n ≤ maxLen ∧ FoAt true (fun g => w.heap.size ≤ g) w' F ao n ∧ Below w.heap.size w w'
set_option maxRecDepth 20000 in
set_option maxHeartbeats 4000000 in
theorem kidsC_calls : ∀ (N : Nat) (F : Fo) (ao : Option Addr) (n c : Nat) (w : World) (o : Bool) (S : Nat → Prop), FoAt o S w F ao n → n ≤ mxE → fewF F → szF F < N →
    Calls Try.prog 31 #[.slice ao n c] w (CopyPost F w)
  | 0, _, _, _, _, _, _, _, _, _, _, h => by omega
  | N + 1, F, ao, n, c, w, o, S, hF, hn, hfw, hN => by
    have IH : Hid (∀ (F : Fo) (ao : Option Addr) (n c : Nat) (w : World), FoAt o S w F ao n → n ≤ mxE → fewF F → szF F < N → Calls Try.prog 31 #[.slice ao n c] w (CopyPost F w)) := fun F ao n c w h1 h2 h3 h4 => kidsC_calls N F ao n c w o S h1 h2 h3 h4
    obtain ⟨g, off, hka, hF'⟩ := foAt_addr hF
    unfold mxE at hn
    have H0 : Hid (FoAt o S w F (some ⟨g, off + 0 * 5, none⟩) (n - 0) ∧ szF F ≤ N ∧ fewF F ∧ appL [] (clean F) = clean F) := ⟨hF', by omega, hfw, rfl⟩
    clear hF hF' hN hfw
    go_enter Try.func31, Try.ntmps31
    go_wp2_with fail
    go_loopg [3, 4] n (fun k ov iv wr => ∃ (G : Fo) (xs : List Xs) (a2 : Option Addr) (cap i : Nat), ov = .slice a2 i cap ∧ iv = .int .i64 (i : Int) ∧ i + k = n ∧ Hid (FoAt o S w G (some ⟨g, off + i * 5, none⟩) (n - i) ∧ szF G ≤ N ∧ fewF G ∧ appL (xs.map (·.1)) (clean G) = clean F) ∧ Hid (CpL w xs (.slice a2 i cap) i wr))
    case atStart => exact ⟨F, [], none, 0, 0, rfl, rfl, by omega, H0.out, CpL.start w⟩
    case round =>
      clear H0
      obtain ⟨G, xs, a2, cap, i, rfl, rfl, hik, HG, HT⟩ := hrel
      by_cases hi : i < n
      · have hdi : decide ((i : Int) < (n : Int)) = true := by simp; omega
        obtain ⟨b0, o0, h2, k2, r2, ka2, kc2, kk2, rfl, -, hok, hkc, ⟨c0, c1, c2, c3, c4⟩, hk2, hr2⟩ := foAt_head HG.out.1 hi
        have hka2 := hka (by omega)
        subst hka2
        have x0 := keepq HT.out.low (World.block_lt_of_cell? _ _ c0) c0
        have x1 := keepq HT.out.low (World.block_lt_of_cell? _ _ c1) c1
        have x2 := keepq HT.out.low (World.block_lt_of_cell? _ _ c2) c2
        have x3 := keepq HT.out.low (World.block_lt_of_cell? _ _ c3) c3
        have x4 := keepq HT.out.low (World.block_lt_of_cell? _ _ c4) c4
        have hbx : ∀ o', Below wr.heap.size wr (wr.alloc o') := fun o' => (Below.refl _ _).alloc (Nat.le_refl _) o'
        have HR : Hid (FoAt o S w r2 (some ⟨g, off + (i + 1) * 5, none⟩) (n - (i + 1)) ∧ szF r2 ≤ N ∧ fewF r2 ∧ appL (xs.map (·.1)) (nd h2 (clean k2) (clean r2)) = clean F) := by
          obtain ⟨_, h3, h4, h5⟩ := HG.out
          simp only [szF] at h3
          exact ⟨hr2, by omega, h4.2.2, h5⟩
        have HCk : Hid (∀ o', Calls Try.prog 31 #[.slice ka2 kc2 kk2] (wr.alloc o') (CopyPost k2 (wr.alloc o'))) := fun o' => by
          obtain ⟨_, h3, h4, _⟩ := HG.out
          simp only [szF] at h3
          refine IH.out k2 ka2 kc2 kk2 _ (hk2.below ?_) (by rw [foAt_len hk2]; exact h4.1) h4.2.1 (by omega)
          exact HT.out.low.trans ((hbx o').mono HT.out.low.size)
        have HNw : Hid ((wr.alloc (.cells #[.int .i64 h2.kind, .int .i64 h2.num, .string (bs h2.text), .slice ka2 kc2 kk2, .int .i64 h2.pl] 35)).heap[wr.heap.size]? = some (.cells #[.int .i64 h2.kind, .int .i64 h2.num, .string (bs h2.text), .slice ka2 kc2 kk2, .int .i64 h2.pl] 35 (0, 0))) := heap_alloc_new wr _
        have HBx : Hid (∀ o', Below wr.heap.size wr (wr.alloc o')) := hbx
        have HOk : Hid (HdOk h2) := hok
        clear HG hk2 hr2 hok hkc c0 c1 c2 c3 c4 hbx
        go_wp2_with fail
        refine (HCk.out _).mono ?_
        rintro e w3 ⟨a3, n3, k3, rfl, hn3, hF3, hb3⟩
        have hblk : w3.heap[wr.heap.size]? = some (.cells #[.int .i64 h2.kind, .int .i64 h2.num, .string (bs h2.text), .slice ka2 kc2 kk2, .int .i64 h2.pl] 35 (0, 0)) := by rw [hb3.block _ (lt_block HNw.out)]; exact HNw.out
        have hset : (w3.setCell ⟨wr.heap.size, 3, none⟩ (.slice a3 n3 k3)).heap[wr.heap.size]? = some (.cells #[.int .i64 h2.kind, .int .i64 h2.num, .string (bs h2.text), .slice a3 n3 k3, .int .i64 h2.pl] 35 (0, 0)) := heap_put hblk rfl
        have t3 := blk (i := 3) hblk rfl
        have f3 := blkf 3 hblk
        have y0 := blk (i := 0) hset rfl
        have y1 := blk (i := 1) hset rfl
        have y2 := blk (i := 2) hset rfl
        have y3 := blk (i := 3) hset rfl
        have y4 := blk (i := 4) hset rfl
        have hb4 : Below wr.heap.size wr (w3.setCell ⟨wr.heap.size, 3, none⟩ (.slice a3 n3 k3)) := ((HBx.out _).trans (hb3.mono (HBx.out _).size)).setCell (p := ⟨wr.heap.size, 3, none⟩) (Nat.le_refl _) _
        have hlow : w.heap.size ≤ wr.heap.size := HT.out.low.size
        have HAl : Hid (∀ o', CpL w xs (.slice a2 i cap) i ((w3.setCell ⟨wr.heap.size, 3, none⟩ (.slice a3 n3 k3)).alloc o')) := fun o' => (HT.out.next hb4).next ((Below.refl _ _).alloc (Nat.le_refl _) o')
        have HAx : Hid (∀ o', ExAt true (fun g => w.heap.size ≤ g ∧ some g ≠ (Value.slice a2 i cap).ownBlock) ((w3.setCell ⟨wr.heap.size, 3, none⟩ (.slice a3 n3 k3)).alloc o') (h2, clean k2) a3 n3) := fun o' => by
          have q1 : FoAt true (fun g => w.heap.size ≤ g ∧ some g ≠ (Value.slice a2 i cap).ownBlock ∧ g ≠ wr.heap.size) w3 k2 a3 n3 := hF3.base fun g _ hg => by
            have h3 : wr.heap.size + 1 ≤ g := by simpa using hg
            refine ⟨by omega, fun e => ?_, by omega⟩
            have := (HT.out.own.lt g e.symm).2
            omega
          have q2 := foAt_keep (w' := w3.setCell ⟨wr.heap.size, 3, none⟩ (.slice a3 n3 k3)) (fun g _ hg => heap_other rfl hg.2.2) q1
          exact ⟨HOk.out, hn3, clean_at.2 ((q2.base fun g _ hg => ⟨hg.1, hg.2.1⟩).below ((Below.refl _ _).alloc (Nat.le_refl _) o'))⟩
        have HAs : Hid (∀ o', w.heap.size ≤ ((w3.setCell ⟨wr.heap.size, 3, none⟩ (.slice a3 n3 k3)).alloc o').heap.size) := fun o' => by
          have := (hb4.trans (((Below.refl _ _).alloc (Nat.le_refl _) o').mono hb4.size)).size
          omega
        clear hblk hset hb3 hF3 hb4 HCk HNw HBx x0 x1 x2 x3 x4 HT hlow
        obtain ⟨i0, hi0, hz0, hz1, hz2⟩ := info_parts info35
        go_wp2_with (at_builtin; go_loud (refine wpList_append_fresh rfl _ _ 33 rfl w.heap.size 35 i0 (.agg #[.int .i64 0, .int .i64 0, .string ByteArray.empty, .slice none 0 0, .int .i64 0]) 5 64 Try.underlying33 hi0 hz0 hz1 hz2 rfl (by decide) (.slice a2 i cap) i (xRow xs) rfl (HAl.out _).own ⟨_, 0, none⟩ 1 1 (xsCells ((h2, clean k2), a3, n3, k3)) rfl rfl (cell_x_set _ _ _ ((h2, clean k2), a3, n3, k3)) (xs_one _) (by unfold maxLen; omega) (by omega) (HAs.out _) ?_); intro v' w7 hown' hgrow' hfr')
        have HT7 := (HAl.out _).add (x := ((h2, clean k2), a3, n3, k3)) (HAx.out _) hown' hgrow' hfr'
        obtain ⟨ao7, cap7, rfl⟩ := owned_shape hown'
        have HT8 : Hid (CpL w (xs ++ [((h2, clean k2), a3, n3, k3)]) (.slice ao7 (i + 1) cap7) (i + 1) w7) := HT7
        clear HT7 hown' hgrow' hfr' HAl HAx HAs t3 f3 y0 y1 y2 y3 y4
        go_wp2_with fail
        go_roundg (gk - 1)
        case measure => omega
        case rel =>
          refine ⟨r2, xs ++ [((h2, clean k2), a3, n3, k3)], ao7, cap7, i + 1, rfl, by go_num, by omega, ⟨HR.out.1, HR.out.2.1, HR.out.2.2.1, ?_⟩, HT8.out⟩
          rw [List.map_append]
          show appL (xs.map (·.1) ++ [(h2, clean k2)]) (clean r2) = clean F
          rw [appL_more]
          exact HR.out.2.2.2
      · have hdi : decide ((i : Int) < (n : Int)) = false := by simp; omega
        have HX : Hid (CopyPost F w (.returned (.slice a2 i cap)) wr) := by
          obtain ⟨h1, _, _, h4⟩ := HG.out
          rw [show n - i = 0 by omega] at h1
          rw [foAt_end h1] at h4
          have h5 : ofL (xs.map (·.1)) = clean F := by rw [← appL_nil]; exact h4
          refine ⟨a2, i, cap, rfl, by unfold maxLen; omega, ?_, HT.out.low⟩
          have := (foAt_owned (o := true) (S := fun g => w.heap.size ≤ g) (fun g _ hg => hg) HT.out.own fun x hx => (HT.out.ex x hx).base fun g _ hg => hg.1).1
          rw [h5] at this
          exact clean_at.1 this
        clear HG HT
        go_wp2
        go_ret
        exact HX.out
end Go.Proofs.Ytnnmhmlebffacaa
namespace Go.Proofs.Ytnnmhmlebffacaa
open Go.RowKit Go.Deep

/-- While a tree is copied: the copy's own variable, in block b; the items so far. -/
structure CI (b : Nat) (w : World) (xs : List Is) (v : Value) (n : Nat) (W : World) : Prop where
  kp : Kp b w W
  nb : b < w.heap.size
  out : W.heap[b]? = some (.cells #[v] 24 (0, 0))
  own : W.ownsRow w.heap.size 42 4 v n (iRow xs)
  ex : ∀ x ∈ xs, IsAt true (fun g => w.heap.size ≤ g ∧ some g ≠ v.ownBlock) W x
section
variable {b : Nat} {w : World} {xs : List Is} {v : Value} {n : Nat} {W W' : World}
theorem CI.next (h : CI b w xs v n W) (hk : Below W.heap.size W W') : CI b w xs v n W' :=
  ⟨h.kp.then_below hk, h.nb, by rw [hk.block b (lt_block h.out)]; exact h.out, owned_of_block h.own fun g _ _ hc => hk.block g (lt_block hc), fun x hx => (h.ex x hx).below hk⟩
theorem CI.add (h : CI b w xs v n W) {x : Is} (hx : IsAt true (fun g => w.heap.size ≤ g ∧ some g ≠ v.ownBlock) W x) {v' : Value} {w4 : World}
    (ho : w4.ownsRow w.heap.size 42 4 v' (n + 1) (iRow xs ++ isCells x)) (hg : W.grownBy w4 v.ownBlock) (hf : ∀ g, v'.ownBlock = some g → some g = v.ownBlock ∨ W.heap.size ≤ g) :
    w4.heap[b]? = some (.cells #[v] 24 (0, 0)) ∧ CI b w (xs ++ [x]) v' (n + 1) (w4.setCell ⟨b, 0, none⟩ v') := by
  have hnb := h.nb
  have hkeep : ∀ g, g < W.heap.size → (w.heap.size ≤ g ∧ some g ≠ v.ownBlock) → w4.heap[g]? = W.heap[g]? := fun g h1 h2 => hg.block g h1 h2.2
  have hbase : ∀ g, g < W.heap.size → (w.heap.size ≤ g ∧ some g ≠ v.ownBlock) → (w.heap.size ≤ g ∧ some g ≠ v'.ownBlock) := fun g h1 h2 => by
    refine ⟨h2.1, fun e => ?_⟩
    rcases hf g e.symm with h3 | h3
    · exact h2.2 h3
    · omega
  have hb4 : w4.heap[b]? = some (.cells #[v] 24 (0, 0)) := by
    rw [hg.block b (lt_block h.out) (fun e => by have := (h.own.lt b e.symm).1; omega)]; exact h.out
  have hoth : ∀ g, g ≠ b → (w4.setCell ⟨b, 0, none⟩ v').heap[g]? = w4.heap[g]? := fun g hne => heap_other rfl hne
  refine ⟨hb4, (h.kp.grown hg (fun k hk => (h.own.lt k hk).1)).setCell 0 v', hnb, heap_put hb4 rfl, ?_, fun y hy => ?_⟩
  · rw [iRow_snoc]
    exact owned_of_block ho fun g cur hgo _ => hoth g (fun e => by have := (ho.lt g hgo).1; omega)
  · have hE : IsAt true (fun g => w.heap.size ≤ g ∧ some g ≠ v.ownBlock) W y := by
      rcases List.mem_append.1 hy with hy | hy
      · exact h.ex y hy
      · rw [List.mem_singleton.1 hy]; exact hx
    have h1 : IsAt true (fun g => (w.heap.size ≤ g ∧ some g ≠ v.ownBlock) ∧ (w.heap.size ≤ g ∧ some g ≠ v'.ownBlock)) W y := hE.base fun g h1 h2 => ⟨h2, hbase g h1 h2⟩
    have h2 : IsAt true (fun g => w.heap.size ≤ g ∧ some g ≠ v'.ownBlock) w4 y := (h1.keep fun g h2 h3 => hkeep g h2 h3.1).base fun g _ h2 => h2.2
    exact h2.keep fun g _ h3 => hoth g (by have := h3.1; omega)
end
theorem clean_its {o : Bool} {S : Nat → Prop} {w : World} : ∀ {L M : List It} {ao : Option Addr} {n : Nat}, (M = L.map fun i => ⟨i.kind, i.name, clean i.args, i.pl⟩) → ItsAt o S w M ao n → ItsAt o S w L ao n
  | [], _, _, _, e, h => by subst e; exact h
  | i :: r, _, ao, n, e, h => by
    subst e
    obtain ⟨g, off, ka, kn, kc, m, h1, h2, h3, h4, h5, h6, h7, h8, h9⟩ := h
    exact ⟨g, off, ka, kn, kc, m, h1, h2, h3, h4, ⟨h5.kind, h5.name, h5.pl⟩, h6, h7, clean_at.1 h8, clean_its rfl h9⟩
def cleanI (i : It) : It := ⟨i.kind, i.name, clean i.args, i.pl⟩
def three (w : World) (v : Value) : World := ((w.alloc (.cells #[v] 24)).alloc (.cells #[.slice none 0 0] 24)).alloc (.cells #[.slice none 0 0] 24)
theorem three_facts (w : World) (v : Value) : (three w v).heap.size = w.heap.size + 3 ∧ Below w.heap.size w (three w v) ∧ (three w v).heap[w.heap.size]? = some (.cells #[v] 24 (0, 0)) ∧ (three w v).heap[w.heap.size + 1]? = some (.cells #[.slice none 0 0] 24 (0, 0)) ∧ (three w v).heap[w.heap.size + 2]? = some (.cells #[.slice none 0 0] 24 (0, 0)) := by
  have e1 : (w.alloc (.cells #[v] 24)).heap.size = w.heap.size + 1 := by simp
  have e2 : ((w.alloc (.cells #[v] 24)).alloc (.cells #[.slice none 0 0] 24)).heap.size = w.heap.size + 2 := by simp
  have h2 := heap_alloc_new ((w.alloc (.cells #[v] 24)).alloc (.cells #[.slice none 0 0] 24)) (.cells #[.slice none 0 0] 24)
  have h1 := heap_alloc_new (w.alloc (.cells #[v] 24)) (.cells #[.slice none 0 0] 24)
  rw [e2] at h2
  rw [e1] at h1
  refine ⟨by unfold three; simp, (((Below.refl _ _).alloc (Nat.le_refl _) _).alloc (by simp) _).alloc (by simp; omega) _, heap_old (heap_old (heap_alloc_new w _)), heap_old h1, h2⟩
/-- What a copy of a tree leaves. -/
def TreeCopy (L : List It) (w : World) (e : Ending) (w' : World) : Prop :=
  ∃ ao n c, e = .returned (.agg #[.slice ao n c]) ∧ n ≤ maxLen ∧ ItsAt true (fun g => w.heap.size ≤ g) w' L ao n ∧ Below w.heap.size w w'
set_option maxRecDepth 20000 in
set_option maxHeartbeats 4000000 in
theorem copied_calls (L : List It) (ao : Option Addr) (n c : Nat) (w : World) (hL : TreeIn w L ao n) : Calls Try.prog 14 #[.agg #[.slice ao n c]] w (TreeCopy L w) := by
  have hres : Try.f14.results = #[.cell 2 24] := by kernel_rfl
  obtain ⟨g, off, hka, hF'⟩ := itsAt_addr hL.its
  have hn := hL.few
  unfold mxI at hn
  obtain ⟨e0, e1, e2, e3, e4⟩ := three_facts w (.slice ao n c)
  have HW0 : Hid (((w.alloc (.cells #[.slice ao n c] 24)).alloc (.cells #[.slice none 0 0] 24)).alloc (.cells #[.slice none 0 0] 24) = three w (.slice ao n c)) := rfl
  generalize three w (.slice ao n c) = w0 at *
  have H0 : Hid (ItsAt false (fun _ => True) w L (some ⟨g, off + 0 * 4, none⟩) (n - 0) ∧ (∀ i ∈ L, lenF i.args ≤ mxE ∧ fewF i.args) ∧ ([] : List It) ++ L.map cleanI = L.map cleanI) := ⟨hF', hL.each, rfl⟩
  have HC0 : Hid (CI (w.heap.size + 2) w0 [] (.slice none 0 0) 0 w0) := ⟨Kp.refl _ _, by omega, e4, World.ownsRow_nil _ _ _ _, fun x h => by cases h⟩
  have HS : Hid (w0.heap.size = w.heap.size + 3 ∧ Below w.heap.size w w0 ∧ w0.heap[w.heap.size]? = some (.cells #[.slice ao n c] 24 (0, 0)) ∧ w0.heap[w.heap.size + 1]? = some (.cells #[.slice none 0 0] 24 (0, 0))) := ⟨e0, e1, e2, e3⟩
  have HLow : Hid (∀ xs v m W, CI (w.heap.size + 2) w0 xs v m W → Below w.heap.size w W) := fun xs v m W h => HS.out.2.1.trans (h.kp.below (by omega) (by have := HS.out.1; omega))
  clear hL hF' e1 e2 e3 e4
  go_enter Try.func14, Try.ntmps14
  go_wp2_with fail
  rw [HW0.out]
  clear HW0
  go_loopg [4] n (fun k iv wr => ∃ (M : List It) (xs : List Is) (a2 : Option Addr) (cap i : Nat), iv = .int .i64 (i : Int) ∧ i + k = n ∧ Hid (ItsAt false (fun _ => True) w M (some ⟨g, off + i * 4, none⟩) (n - i) ∧ (∀ i ∈ M, lenF i.args ≤ mxE ∧ fewF i.args) ∧ xs.map (·.1) ++ M.map cleanI = L.map cleanI) ∧ Hid (CI (w.heap.size + 2) w0 xs (.slice a2 i cap) i wr))
  case atStart => exact ⟨L, [], none, 0, 0, rfl, by omega, H0.out, HC0.out⟩
  case round =>
    clear H0 HC0
    obtain ⟨M, xs, a2, cap, i, rfl, hik, HG, HT⟩ := hrel
    have hlow := HLow.out _ _ _ _ HT.out
    have bt : wr.cell? ⟨w.heap.size, 0, none⟩ = some (.slice ao n c) := blk (i := 0) (by rw [HT.out.kp.block _ (lt_block HS.out.2.2.1) (by omega)]; exact HS.out.2.2.1) rfl
    by_cases hi : i < n
    · have hdi : decide ((i : Int) < (n : Int)) = true := by simp; omega
      obtain ⟨h2, r2, ka2, kc2, kk2, rfl, -, hok, hkc, ⟨c0, c1, c2, c3⟩, hk2, hr2⟩ := itsAt_head HG.out.1 hi
      have hka2 := hka (by omega)
      subst hka2
      have x0 := keepq hlow (World.block_lt_of_cell? _ _ c0) c0
      have x1 := keepq hlow (World.block_lt_of_cell? _ _ c1) c1
      have x2 := keepq hlow (World.block_lt_of_cell? _ _ c2) c2
      have x3 := keepq hlow (World.block_lt_of_cell? _ _ c3) c3
      have hbx : ∀ o', Below wr.heap.size wr (wr.alloc o') := fun o' => (Below.refl _ _).alloc (Nat.le_refl _) o'
      have HR : Hid (ItsAt false (fun _ => True) w r2 (some ⟨g, off + (i + 1) * 4, none⟩) (n - (i + 1)) ∧ (∀ i ∈ r2, lenF i.args ≤ mxE ∧ fewF i.args) ∧ xs.map (·.1) ++ cleanI h2 :: r2.map cleanI = L.map cleanI) := by
        obtain ⟨_, h4, h5⟩ := HG.out
        exact ⟨hr2, fun i hi => h4 i (by simp [hi]), h5⟩
      have HCk : Hid (∀ o', Calls Try.prog 31 #[.slice ka2 kc2 kk2] (wr.alloc o') (CopyPost h2.args (wr.alloc o'))) := fun o' => by
        have h4 := HG.out.2.1 h2 (by simp)
        refine kidsC_calls _ h2.args ka2 kc2 kk2 _ false (fun _ => True) (hk2.below ?_) (by rw [foAt_len hk2]; exact h4.1) h4.2 (Nat.lt_succ_self _)
        exact hlow.trans ((hbx o').mono hlow.size)
      have HNw : Hid ((wr.alloc (.cells #[.int .i64 h2.kind, .string (bs h2.name), .slice ka2 kc2 kk2, .int .i64 h2.pl] 42)).heap[wr.heap.size]? = some (.cells #[.int .i64 h2.kind, .string (bs h2.name), .slice ka2 kc2 kk2, .int .i64 h2.pl] 42 (0, 0))) := heap_alloc_new wr _
      have HBx : Hid (∀ o', Below wr.heap.size wr (wr.alloc o')) := hbx
      have HOk : Hid (ItOk h2) := hok
      clear HG hk2 hr2 hok hkc c0 c1 c2 c3 hbx hlow
      go_wp2_with fail
      refine (HCk.out _).mono ?_
      rintro e w3 ⟨a3, n3, k3, rfl, hn3, hF3, hb3⟩
      have hblk : w3.heap[wr.heap.size]? = some (.cells #[.int .i64 h2.kind, .string (bs h2.name), .slice ka2 kc2 kk2, .int .i64 h2.pl] 42 (0, 0)) := by rw [hb3.block _ (lt_block HNw.out)]; exact HNw.out
      have hset : (w3.setCell ⟨wr.heap.size, 2, none⟩ (.slice a3 n3 k3)).heap[wr.heap.size]? = some (.cells #[.int .i64 h2.kind, .string (bs h2.name), .slice a3 n3 k3, .int .i64 h2.pl] 42 (0, 0)) := heap_put hblk rfl
      have t3 := blk (i := 2) hblk rfl
      have f3 := blkf 2 hblk
      have y0 := blk (i := 0) hset rfl
      have y1 := blk (i := 1) hset rfl
      have y2 := blk (i := 2) hset rfl
      have y3 := blk (i := 3) hset rfl
      have hb4 : Below wr.heap.size wr (w3.setCell ⟨wr.heap.size, 2, none⟩ (.slice a3 n3 k3)) := ((HBx.out _).trans (hb3.mono (HBx.out _).size)).setCell (p := ⟨wr.heap.size, 2, none⟩) (Nat.le_refl _) _
      have hlow2 : w0.heap.size ≤ wr.heap.size := HT.out.kp.size
      have HT4 := HT.out.next hb4
      have ob := blk (i := 0) HT4.out rfl
      have HAl : Hid (∀ o', CI (w.heap.size + 2) w0 xs (.slice a2 i cap) i ((w3.setCell ⟨wr.heap.size, 2, none⟩ (.slice a3 n3 k3)).alloc o')) := fun o' => HT4.next ((Below.refl _ _).alloc (Nat.le_refl _) o')
      have HAx : Hid (∀ o', IsAt true (fun g => w0.heap.size ≤ g ∧ some g ≠ (Value.slice a2 i cap).ownBlock) ((w3.setCell ⟨wr.heap.size, 2, none⟩ (.slice a3 n3 k3)).alloc o') (cleanI h2, a3, n3, k3)) := fun o' => by
        have q1 : FoAt true (fun g => w0.heap.size ≤ g ∧ some g ≠ (Value.slice a2 i cap).ownBlock ∧ g ≠ wr.heap.size) w3 h2.args a3 n3 := hF3.base fun g _ hg => by
          have h3 : wr.heap.size + 1 ≤ g := by simpa using hg
          refine ⟨by omega, fun e => ?_, by omega⟩
          have := (HT.out.own.lt g e.symm).2
          omega
        have q2 := foAt_keep (w' := w3.setCell ⟨wr.heap.size, 2, none⟩ (.slice a3 n3 k3)) (fun g _ hg => heap_other rfl hg.2.2) q1
        exact ⟨⟨HOk.out.kind, HOk.out.name, HOk.out.pl⟩, hn3, clean_at.2 ((q2.base fun g _ hg => ⟨hg.1, hg.2.1⟩).below ((Below.refl _ _).alloc (Nat.le_refl _) o'))⟩
      have HAs : Hid (∀ o', w0.heap.size ≤ ((w3.setCell ⟨wr.heap.size, 2, none⟩ (.slice a3 n3 k3)).alloc o').heap.size) := fun o' => by
        have := (hb4.trans (((Below.refl _ _).alloc (Nat.le_refl _) o').mono hb4.size)).size
        omega
      clear hblk hset hb3 hF3 hb4 HCk HNw HBx x0 x1 x2 x3 HT hlow2 HT4 bt
      obtain ⟨i0, hi0, hz0, hz1, hz2⟩ := info_parts info42
      go_wp2_with (at_builtin; go_loud (refine wpList_append_fresh rfl _ _ 22 rfl w0.heap.size 42 i0 (.agg #[.int .i64 0, .string ByteArray.empty, .slice none 0 0, .int .i64 0]) 4 56 Try.underlying22 hi0 hz0 hz1 hz2 rfl (by decide) (.slice a2 i cap) i (iRow xs) rfl (HAl.out _).own ⟨_, 0, none⟩ 1 1 (isCells (cleanI h2, a3, n3, k3)) rfl rfl (cell_i_set _ _ _ (cleanI h2, a3, n3, k3)) (is_one _) (by unfold maxLen; omega) (by omega) (HAs.out _) ?_); intro v' w7 hown' hgrow' hfr'; have HT7 := (HAl.out _).add (x := (cleanI h2, a3, n3, k3)) (HAx.out _) hown' hgrow' hfr'; obtain ⟨ao7, cap7, rfl⟩ := owned_shape hown'; have ob7 := blk (i := 0) HT7.1 rfl; have of7 := blkf 0 HT7.1; have HT8 : Hid (CI (w.heap.size + 2) w0 (xs ++ [(cleanI h2, a3, n3, k3)]) (.slice ao7 (i + 1) cap7) (i + 1) (w7.setCell ⟨w.heap.size + 2, 0, none⟩ (.slice ao7 (i + 1) cap7))) := HT7.2; clear HT7 hown' hgrow' hfr' HAl HAx HAs t3 f3 y0 y1 y2 y3 ob)
      go_roundg (gk - 1)
      case measure => omega
      case rel =>
        refine ⟨r2, xs ++ [(cleanI h2, a3, n3, k3)], ao7, cap7, i + 1, by go_num, by omega, ⟨HR.out.1, HR.out.2.1, ?_⟩, HT8.out⟩
        rw [List.map_append, List.append_assoc]
        exact HR.out.2.2
    · have hdi : decide ((i : Int) < (n : Int)) = false := by simp; omega
      have hr0 : wr.heap[w.heap.size + 1]? = some (.cells #[.slice none 0 0] 24 (0, 0)) := by rw [HT.out.kp.block _ (lt_block HS.out.2.2.2) (by omega)]; exact HS.out.2.2.2
      have o0 := blk (i := 0) HT.out.out rfl
      have q0 := blk (i := 0) hr0 rfl
      have qf := blkf 0 hr0
      have HX : Hid (TreeCopy L w (.returned (.agg #[.slice a2 i cap])) (wr.setCell ⟨w.heap.size + 1, 0, none⟩ (.slice a2 i cap))) := by
        obtain ⟨h1, _, h4⟩ := HG.out
        rw [show n - i = 0 by omega] at h1
        rw [itsAt_end h1] at h4
        have h5 : xs.map (·.1) = L.map cleanI := by simpa using h4
        have h6 := (itsAt_owned (o := true) (S := fun g => w0.heap.size ≤ g) (fun g _ hg => hg) HT.out.own fun x hx => (HT.out.ex x hx).base fun g _ hg => hg.1).1
        have h7 := clean_its h5 h6
        refine ⟨a2, i, cap, rfl, by unfold maxLen; omega, ?_, hlow.setCell (p := ⟨w.heap.size + 1, 0, none⟩) (by show w.heap.size ≤ w.heap.size + 1; omega) _⟩
        have h8 : ItsAt true (fun g => w0.heap.size ≤ g) (wr.setCell ⟨w.heap.size + 1, 0, none⟩ (.slice a2 i cap)) L a2 i := itsAt_keep (fun g _ hg => heap_other rfl (by have := HS.out.1; have h9 : w0.heap.size ≤ g := hg; omega)) h7
        exact h8.base fun g _ hg => by have := HS.out.1; have h9 : w0.heap.size ≤ g := hg; show w.heap.size ≤ g; omega
      clear HG HT hr0 hlow HLow HS
      go_wp2
      refine bodyPost_ret (v := .agg #[.slice a2 i cap]) ?_ rfl HX.out
      · simp only [results, hres]
        go_simp
end Go.Proofs.Ytnnmhmlebffacaa
