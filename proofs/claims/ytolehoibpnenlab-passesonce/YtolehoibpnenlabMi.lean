/-
  What Lower is put together of: ends, openings, numbers in a row, edges; lists grown, cloned and put behind one another. The states of a scheme's recurrence.
-/
import Derived.Laws.AppendOwnNone
import Derived.Deep.Slices
import Derived.Lib.AppendZerosOnto
import Derived.Lib.SliceRun
import Derived.Lib.Walk
import Derived.Deep.DeepCutAuto
import Derived.Deep.RegionHeld3
import Derived.Test.YtolehoibpnenlabRcA
import Derived.Test.YtolehoibpnenlabMm
namespace Go.Proofs.Ytolehoibpnenlab
open Go.RowKit Go.Deep Go.Maps
theorem run_append_nothing' {P : Program} {w : World} (base : Nat) (t ty e : TypeId) (i : TypeInfo) (size : Nat) (ht : P.underlying t = some (.slice e)) (hi : P.info? e = some i)
    (v : Value) (n : Nat) (xs : List Value) (hown : w.ownsRow base e size v n xs) (c : Nat) : (Builtin.append_ #[t, t] ty #[v, .slice none 0 c]).run P w = .ok v w := by
  rcases hown.2 with ⟨hv, h0⟩ | ⟨g, cap, cur, hv, _, _, hc, _⟩
  · subst hv
    simp [Builtin.append_, run_underlying ht, sizeOf, typeInfo, hi, Builtin.lenOf, run_firstCells_none]
  · subst hv
    simp [Builtin.append_, run_underlying ht, sizeOf, typeInfo, hi, Builtin.lenOf, run_firstCells_none, hc, storeCells]
/-- What may be appended: some cells, or nothing. -/
def SrcAt (w : World) (ao : Option Addr) (m size : Nat) (news : List Value) : Prop := news.length = m * size ∧ (∀ u ∈ news, u.oneCell' = true) ∧ ((ao = none ∧ m = 0) ∨ ∃ ad, ao = some ad ∧ ∀ j u, news[j]? = some u → w.cell? (ad.add j) = some u)
theorem wpList_append_opt {P : Program} {w : World} {ops : Array Oper} {rest : List Oper} {o : Oper} {a : Act} {Q : Exit → Act → World → Prop} (hgd : o.guard = none) (s x : Operand) (t : TypeId)
    (ho : o.op = .call { callee := .builtin .append, args := #[s, x], argTypes := #[t, t] })
    (base : Nat) (e : TypeId) (i : TypeInfo) (z : Value) (size bytes : Nat) (ht : P.underlying t = some (.slice e)) (hi : P.info? e = some i) (hz : i.zero = some z)
    (hsize : i.size = size) (hby : i.bytes = bytes) (hzs : z.cells.size = size) (hsz : 0 < size)
    (v : Value) (n : Nat) (xs : List Value) (hs : a.eval s = v) (hown : w.ownsRow base e size v n xs)
    (ao : Option Addr) (m c : Nat) (news : List Value) (hx : a.eval x = .slice ao m c) (hsrc : SrcAt w ao m size news)
    (h63 : n + m ≤ maxLen) (hbytes : (n + m) * bytes ≤ 140737488355328) (hbase : base ≤ w.heap.size)
    (h : ∀ v' w', w'.ownsRow base e size v' (n + m) (xs ++ news) → w.grownBy w' v.ownBlock → wpList P ops Q rest (a.put o.dst v') w') : wpList P ops Q (o :: rest) a w := by
  obtain ⟨hl, h1, ⟨hao, hm⟩ | ⟨ad, hao, hc⟩⟩ := hsrc
  · subst hao hm
    have hn : news = [] := List.eq_nil_of_length_eq_zero (by rw [hl]; simp)
    subst hn
    refine wpList_plain hgd fun K hK => ?_
    have hrun := run_append_nothing' (P := P) (w := w) base t o.type e i size ht hi v n xs hown c
    unfold Oper.wp
    simp [execOp, ho, resolve, invoke, builtin, hs, hx, hrun, Result.andThen]
    exact hK _ _ (h v w (by rw [List.append_nil, Nat.add_zero]; exact hown) ⟨rfl, rfl, rfl, Nat.le_refl _, fun _ _ _ => rfl⟩)
  · subst hao
    exact wpList_append_own w hgd s x t ho base e i z size bytes ht hi hz hsize hby hzs hsz v n xs hs hown ad m c news hx hl hc h1 h63 hbytes hbase fun v' w' a1 a2 _ => h v' w' a1 a2
theorem empty_row (W : World) (e : TypeId) (size base : Nat) (hb : base ≤ W.heap.size) (g : Nat) (hg : g = W.heap.size) : (W.alloc (.cells #[] e)).ownsRow base e size (.slice (some ⟨g, 0, none⟩) 0 0) 0 [] := by
  subst hg
  refine ⟨by simp, .inr ⟨W.heap.size, 0, #[], rfl, hb, heap_alloc_new W _, ?_⟩⟩
  simp [maxLen]
theorem info54 : (Try.prog.info? 42).map (fun i => (i.zero, i.size, i.bytes)) = some (some (.agg #[.int .i64 0, .int .i64 0]), 2, 16) := by kernel_rfl
theorem info52 : (Try.prog.info? 39).map (fun i => (i.zero, i.size, i.bytes)) = some (some (.agg #[.int .i64 0, .slice none 0 0]), 2, 32) := by kernel_rfl
theorem e_new (W : World) (a b : Int) : ∀ (i : Nat) (u : Value), (pcCells (a, b))[i]? = some u → (W.alloc (.cells #[.int .i64 a, .int .i64 b] 42)).cell? ((⟨W.heap.size, 0, none⟩ : Addr).add i) = some u := cells_new W (pcCells (a, b)) 42
/-- A row that a call made. -/
def RowPost (e : TypeId) (size n : Nat) (xs : List Value) (w : World) (r : Ending) (w' : World) : Prop := ∃ ao cap, r = .returned (.slice ao n cap) ∧ w'.ownsRow w.heap.size e size (.slice ao n cap) n xs ∧ Below w.heap.size w w'
theorem src_ints {w : World} {ao : Option Addr} {n : Nat} {l : List Int} (h : IntA w ao n l) : SrcAt w ao n 1 (itRow l) := by
  refine ⟨by simp [itRow, h.length], fun u hu => ?_, ?_⟩
  · obtain ⟨z, _, rfl⟩ := List.mem_map.1 hu; rfl
  · cases ao with
    | none =>
      refine .inl ⟨rfl, ?_⟩
      rcases Nat.eq_zero_or_pos n with h0 | h0
      · exact h0
      · have hl := h.length
        obtain ⟨g, off, e, _⟩ := h.isI 0 (l[0]'(by omega)) (List.getElem?_eq_getElem _)
        cases e
    | some ad =>
      refine .inr ⟨ad, rfl, fun j u hj => ?_⟩
      have hjl : j < l.length := by have := (List.getElem?_eq_some_iff.1 hj).1; simpa [itRow] using this
      obtain ⟨g, off, e, hc⟩ := h.isI j (l[j]'hjl) (List.getElem?_eq_getElem _)
      cases e
      rw [Go.WideShapes.add_plain, hc, ← hj]
      simp [itRow, List.getElem?_eq_getElem hjl]
theorem src_row {w : World} {base : Nat} {e : TypeId} {size : Nat} {ao : Option Addr} {n cap : Nat} {xs : List Value} (h : w.ownsRow base e size (.slice ao n cap) n xs) (h1 : ∀ u ∈ xs, u.oneCell' = true) : SrcAt w ao n size xs := by
  refine ⟨h.1, h1, ?_⟩
  rcases h.2 with ⟨e1, e2⟩ | ⟨g, c, cur, e1, _⟩
  · cases e1; exact .inl ⟨rfl, e2⟩
  · cases e1
    refine .inr ⟨_, rfl, fun j u hj => ?_⟩
    have := (owned_cells h j u hj).1
    rw [Go.WideShapes.add_plain, Nat.zero_add]
    exact this
theorem SrcAt.below {w w' : World} {ao : Option Addr} {n size : Nat} {xs : List Value} (h : SrcAt w ao n size xs) (hb : Below w.heap.size w w') : SrcAt w' ao n size xs := by
  refine ⟨h.1, h.2.1, ?_⟩
  rcases h.2.2 with h1 | ⟨ad, h1, hc⟩
  · exact .inl h1
  · refine .inr ⟨ad, h1, fun j u hj => ?_⟩
    have := hc j u hj
    rw [hb.cell (World.block_lt_of_cell? w _ this)]
    exact this
theorem src_dfs {w : World} {ao : Option Addr} {n : Nat} {l : List Df} (h : DfsAt w ao n l) : SrcAt w ao n 4 (dfRow l) := by
  refine ⟨?_, fun u hu => ?_, ?_⟩
  · rw [← h.length]
    clear h
    induction l with
    | nil => rfl
    | cons d r ih => rw [show dfRow (d :: r) = dfCells d ++ dfRow r from rfl, List.length_append, ih]; simp [dfCells]; omega
  · obtain ⟨d, _, hd⟩ := List.mem_flatMap.1 hu
    exact df_one d u hd
  · rcases Nat.eq_zero_or_pos n with h0 | h0
    · cases ao with
      | none => exact .inl ⟨rfl, h0⟩
      | some ad =>
        refine .inr ⟨ad, rfl, fun j u hj => ?_⟩
        have hl : l = [] := List.eq_nil_of_length_eq_zero (by rw [h.length]; exact h0)
        rw [hl] at hj
        simp [dfRow] at hj
    · obtain ⟨g, off, rfl, hc⟩ := h.cells h0
      refine .inr ⟨_, rfl, fun j u hj => ?_⟩
      have hjl : j < l.length * 4 := by
        have h1 := (List.getElem?_eq_some_iff.1 hj).1
        have h2 : (dfRow l).length = l.length * 4 := by
          clear h hj h1 hc
          induction l with
          | nil => rfl
          | cons d r ih => rw [show dfRow (d :: r) = dfCells d ++ dfRow r from rfl, List.length_append, ih]; simp [dfCells]; omega
        omega
      have hq : j / 4 < l.length := by omega
      obtain ⟨c0, c1, c2, c3⟩ := hc (j / 4) (l[j / 4]'hq) (List.getElem?_eq_getElem _)
      have hm : j % 4 < 4 := Nat.mod_lt _ (by decide)
      have hg : ∀ (t : Nat) (v : Value), t = j % 4 → (dfCells (l[j / 4]'hq))[t]? = some v → u = v := fun t v ht hv => by
        have := flat_get (f := dfCells) (s := 4) (fun _ => rfl) l (j / 4) _ t v (List.getElem?_eq_getElem hq) hv
        rw [ht, show j / 4 * 4 + j % 4 = j by omega] at this
        rw [show (dfRow l)[j]? = (l.flatMap dfCells)[j]? from rfl, this] at hj
        cases hj; rfl
      rw [Go.WideShapes.add_plain]
      have h4 : j % 4 = 0 ∨ j % 4 = 1 ∨ j % 4 = 2 ∨ j % 4 = 3 := by omega
      rcases h4 with h4 | h4 | h4 | h4
      · rw [hg 0 _ h4.symm rfl, show off + j = off + j / 4 * 4 by omega]; exact c0
      · rw [hg 1 _ h4.symm rfl, show off + j = off + j / 4 * 4 + 1 by omega]; exact c1
      · rw [hg 2 _ h4.symm rfl, show off + j = off + j / 4 * 4 + 2 by omega]; exact c2
      · rw [hg 3 _ h4.symm rfl, show off + j = off + j / 4 * 4 + 3 by omega]; exact c3
end Go.Proofs.Ytolehoibpnenlab
namespace Go.Proofs.Ytolehoibpnenlab
open Go.RowKit Go.Deep Go.Maps
/-- A state as its cells. -/
abbrev Sr := Int × Option Addr × Nat × Nat
def srCells (s : Sr) : List Value := [.int .i64 s.1, .slice s.2.1 s.2.2.1 s.2.2.2]
def srRow (l : List Sr) : List Value := l.flatMap srCells
/-- The edges of each state lie in a row of their own. -/
def Own2 (w : World) (base : Nat) (sl : List Sr) (l : List St) : Prop := sl.length = l.length ∧ ∀ (i : Nat) (r : Sr) (s : St), sl[i]? = some r → l[i]? = some s → r.1 = s.1 ∧ r.2.2.1 = s.2.length ∧ s.2.length ≤ 100 ∧ w.ownsRow base 42 2 (.slice r.2.1 r.2.2.1 r.2.2.2) r.2.2.1 (pcRow s.2)
theorem Own2.below {w w' : World} {base : Nat} {sl : List Sr} {l : List St} (h : Own2 w base sl l) (hb : Below w.heap.size w w') : Own2 w' base sl l :=
  ⟨h.1, fun i r s hi hs => ⟨(h.2 i r s hi hs).1, (h.2 i r s hi hs).2.1, (h.2 i r s hi hs).2.2.1, owned_below (h.2 i r s hi hs).2.2.2 hb⟩⟩
theorem Own2.nil (w : World) (base : Nat) : Own2 w base [] [] := ⟨rfl, fun i r s hi => by simp at hi⟩
theorem Own2.grown {w w' : World} {base : Nat} {sl : List Sr} {l : List St} (h : Own2 w base sl l) {v : Value} {n : Nat} {xs : List Value} (ho : w.ownsRow base 39 2 v n xs) (hg : w.grownBy w' v.ownBlock) : Own2 w' base sl l :=
  ⟨h.1, fun i r s hi hs => ⟨(h.2 i r s hi hs).1, (h.2 i r s hi hs).2.1, (h.2 i r s hi hs).2.2.1, owned_grown (h.2 i r s hi hs).2.2.2 ho (by decide) hg⟩⟩
/-- The states as a list of rows. -/
structure StsOwn (w : World) (base : Nat) (v : Value) (l : List St) : Prop where
  rows : ∃ sl, w.ownsRow base 39 2 v l.length (srRow sl) ∧ Own2 w base sl l
theorem StsOwn.below {w w' : World} {base : Nat} {v : Value} {l : List St} (h : StsOwn w base v l) (hb : Below w.heap.size w w') : StsOwn w' base v l := by
  obtain ⟨sl, h1, h2⟩ := h.rows
  exact ⟨sl, owned_below h1 hb, h2.below hb⟩
theorem StsOwn.at {w : World} {base : Nat} {ao : Option Addr} {n c : Nat} {l : List St} (h : StsOwn w base (.slice ao n c) l) (hn : n = l.length) (hs : n ≤ 1000) : StsAt w ao n l := by
  subst hn
  obtain ⟨sl, h1, h2⟩ := h.rows
  refine ⟨rfl, by unfold maxLen; omega, fun h0 => ?_⟩
  obtain ⟨g, cap, e, _⟩ := owned_some h1 h0
  cases e
  refine ⟨g, 0, rfl, fun i s hi => ?_⟩
  have hil : i < sl.length := by rw [h2.1]; exact (List.getElem?_eq_some_iff.1 hi).1
  have hsl : sl[i]? = some (sl[i]'hil) := List.getElem?_eq_getElem _
  obtain ⟨q1, q2, q2b, q3⟩ := h2.2 i _ s hsl hi
  have cc : ∀ (j : Nat) (u : Value), (srCells (sl[i]'hil))[j]? = some u → w.cell? ⟨g, 0 + (i * 2 + j), none⟩ = some u := fun j u hu => by
    rw [Nat.zero_add]
    exact (owned_cells h1 _ _ (flat_get (s := 2) (fun _ => rfl) sl i _ j u hsl hu)).1
  have c0 := cc 0 _ rfl
  rw [q1] at c0
  refine ⟨(sl[i]'hil).2.1, (sl[i]'hil).2.2.1, (sl[i]'hil).2.2.2, c0, cc 1 _ rfl, ?_⟩
  rw [q2] at q3 ⊢
  obtain ⟨ao, cap', e, hp⟩ := pcs_own q3 (by unfold maxLen; omega)
  cases e
  exact hp
