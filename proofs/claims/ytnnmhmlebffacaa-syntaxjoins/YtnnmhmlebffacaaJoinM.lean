/-
  Items laid one behind another's; append of what may be nothing.
-/
import Derived.Laws.AppendOwnNone
import Derived.Test.YtnnmhmlebffacaaJnAll
namespace Go.Proofs.Ytnnmhmlebffacaa
open Go.RowKit Go.Deep

/-- The cells of a list of items in memory. -/
theorem its_cells {o : Bool} {S : Nat → Prop} {w : World} : ∀ {L : List It} {g off n : Nat}, ItsAt o S w L (some ⟨g, off, none⟩) n → ∃ xs : List Is, xs.map (·.1) = L ∧ (∀ j u, (iRow xs)[j]? = some u → w.cell? ⟨g, off + j, none⟩ = some u) ∧ ∀ x ∈ xs, IsAt o S w x
  | [], g, off, n, h => ⟨[], rfl, fun j u hj => by simp [iRow] at hj, fun x hx => by cases hx⟩
  | i :: r, g, off, n, h => by
    obtain ⟨g', off', ka, kn, kc, m, hn, ha, hS, _, hok, hkn, hc, hf, hr⟩ := h
    cases ha
    obtain ⟨xs, h1, h2, h3⟩ := its_cells hr
    refine ⟨(i, ka, kn, kc) :: xs, by simp [h1], fun j u hj => ?_, fun x hx => ?_⟩
    · rw [iRow, List.flatMap_cons] at hj
      rcases Nat.lt_or_ge j 4 with hlt | hge
      · rw [List.getElem?_append_left (by rw [is_len]; exact hlt)] at hj
        exact hc j u hj
      · rw [List.getElem?_append_right (by rw [is_len]; exact hge), is_len] at hj
        have := h2 (j - 4) u hj
        rwa [show off + 4 + (j - 4) = off + j by omega] at this
    · rcases List.mem_cons.1 hx with rfl | hx
      · exact ⟨hok, hkn, hf⟩
      · exact h3 x hx
theorem run_append_nothing' {P : Program} {w : World} (base : Nat) (t ty e : TypeId) (i : TypeInfo) (size : Nat) (ht : P.underlying t = some (.slice e)) (hi : P.info? e = some i)
    (v : Value) (n : Nat) (xs : List Value) (hown : w.ownsRow base e size v n xs) (c : Nat) : (Builtin.append_ #[t, t] ty #[v, .slice none 0 c]).run P w = .ok v w := by
  rcases hown.2 with ⟨hv, h0⟩ | ⟨g, cap, cur, hv, _, _, hc, _⟩
  · subst hv
    simp [Builtin.append_, run_underlying ht, sizeOf, typeInfo, hi, Builtin.lenOf, run_firstCells_none]
  · subst hv
    simp [Builtin.append_, run_underlying ht, sizeOf, typeInfo, hi, Builtin.lenOf, run_firstCells_none, hc, storeCells]
/-- What may be appended: some cells, or nothing. -/
def SrcAt (w : World) (ao : Option Addr) (m size : Nat) (news : List Value) : Prop := news.length = m * size ∧ (∀ u ∈ news, u.oneCell' = true) ∧ ((ao = none ∧ m = 0) ∨ ∃ ad, ao = some ad ∧ ∀ j u, news[j]? = some u → w.cell? (ad.add j) = some u)
theorem wpList_append_opt {P : Program} {w : World} {ops : Array Oper} {rest : List Oper} {o : Oper} {a : Act} {Q : Exit → Act → World → Prop} (hgd : o.guard = none) (s x : Operand) (t : TypeId)
    (ho : o.op = .call { callee := .builtin .append, args := #[s, x], argTypes := #[t, t] })
    (base : Nat) (e : TypeId) (i : TypeInfo) (z : Value) (size bytes : Nat) (ht : P.underlying t = some (.slice e)) (hi : P.info? e = some i) (hz : i.zero = some z)
    (hsize : i.size = size) (hby : i.bytes = bytes) (hzs : z.cells.size = size) (hsz : 0 < size)
    (v : Value) (n : Nat) (xs : List Value) (hs : a.eval s = v) (hown : w.ownsRow base e size v n xs)
    (ao : Option Addr) (m c : Nat) (news : List Value) (hx : a.eval x = .slice ao m c) (hsrc : SrcAt w ao m size news)
    (h63 : n + m ≤ maxLen) (hbytes : (n + m) * bytes ≤ 140737488355328) (hbase : base ≤ w.heap.size)
    (h : ∀ v' w', w'.ownsRow base e size v' (n + m) (xs ++ news) → w.grownBy w' v.ownBlock → wpList P ops Q rest (a.put o.dst v') w') : wpList P ops Q (o :: rest) a w := by
  obtain ⟨hl, h1, ⟨hao, hm⟩ | ⟨ad, hao, hc⟩⟩ := hsrc
  · subst hao hm
    have hn : news = [] := List.eq_nil_of_length_eq_zero (by rw [hl]; simp)
    subst hn
    refine wpList_plain hgd fun K hK => ?_
    have hrun := run_append_nothing' (P := P) (w := w) base t o.type e i size ht hi v n xs hown c
    unfold Oper.wp
    simp [execOp, ho, resolve, invoke, builtin, hs, hx, hrun, Result.andThen]
    exact hK _ _ (h v w (by rw [List.append_nil, Nat.add_zero]; exact hown) ⟨rfl, rfl, rfl, Nat.le_refl _, fun _ _ _ => rfl⟩)
  · subst hao
    exact wpList_append_own w hgd s x t ho base e i z size bytes ht hi hz hsize hby hzs hsz v n xs hs hown ad m c news hx hl hc h1 h63 hbytes hbase fun v' w' a1 a2 _ => h v' w' a1 a2
theorem its_src {o : Bool} {S : Nat → Prop} {w : World} {L : List It} {ao : Option Addr} {n : Nat} (h : ItsAt o S w L ao n) : ∃ xs : List Is, xs.map (·.1) = L ∧ (∀ W : World, (∀ g, g < w.heap.size → S g → W.heap[g]? = w.heap[g]?) → SrcAt W ao n 4 (iRow xs)) ∧ ∀ x ∈ xs, IsAt o S w x := by
  have hn := itsAt_len h
  cases ao with
  | none =>
    cases L with
    | nil => exact ⟨[], rfl, fun W _ => ⟨by rw [hn]; rfl, by simp [iRow], .inl ⟨rfl, hn⟩⟩, fun x hx => by cases hx⟩
    | cons i r => obtain ⟨_, _, _, _, _, _, _, ha, _⟩ := h; cases ha
  | some ad =>
    cases L with
    | nil => exact ⟨[], rfl, fun W _ => ⟨by rw [hn]; rfl, by simp [iRow], .inr ⟨ad, rfl, fun j u hj => by simp [iRow] at hj⟩⟩, fun x hx => by cases hx⟩
    | cons i r =>
      have hh := h
      obtain ⟨g, off, _, _, _, _, _, ha, hS, _, _, _, hc0, _⟩ := hh
      cases ha
      have hlt : g < w.heap.size := World.block_lt_of_cell? w _ (hc0 0 _ rfl)
      obtain ⟨xs, h1, h2, h3⟩ := its_cells h
      refine ⟨xs, h1, fun W hW => ⟨by rw [iRow_length, hn, ← h1, List.length_map], fun u hu => ?_, .inr ⟨_, rfl, fun j u hj => ?_⟩⟩, h3⟩
      · rw [iRow, List.mem_flatMap] at hu
        obtain ⟨x, _, hx⟩ := hu
        exact is_one x u hx
      · rw [Addr.add_lit, World.cell?_of_block (w := w) (a := ⟨g, off + j, none⟩) (hW g hlt hS)]; exact h2 j u hj
end Go.Proofs.Ytnnmhmlebffacaa
