/-
  An append of some places, or of texts, or of nothing; one reference more, in plain lists.
-/
import Derived.Test.YtnidinppglkcpaaKmO
import Derived.Test.YtnidinppglkcpaaKmS
import Derived.Test.YtnidinppglkcpaaKsP
import Derived.Laws.AppendOwnNone
namespace Go.Proofs.Ytnidinppglkcpaa
open Go.RowKit Go.Maps

theorem run_append_nothing' {P : Program} {w : World} (base : Nat) (t ty e : TypeId) (i : TypeInfo) (size : Nat) (ht : P.underlying t = some (.slice e)) (hi : P.info? e = some i)
    (v : Value) (n : Nat) (xs : List Value) (hown : w.ownsRow base e size v n xs) (c : Nat) : (Builtin.append_ #[t, t] ty #[v, .slice none 0 c]).run P w = .ok v w := by
  rcases hown.2 with ⟨hv, h0⟩ | ⟨g, cap, cur, hv, _, _, hc, _⟩
  · subst hv
    simp [Builtin.append_, run_underlying ht, sizeOf, typeInfo, hi, Builtin.lenOf, run_firstCells_none]
  · subst hv
    simp [Builtin.append_, run_underlying ht, sizeOf, typeInfo, hi, Builtin.lenOf, run_firstCells_none, hc, storeCells]
/-- What may be appended: some cells, or nothing. -/
def SrcAt (w : World) (ao : Option Addr) (m size : Nat) (news : List Value) : Prop := news.length = m * size ∧ (∀ u ∈ news, u.oneCell' = true) ∧ ((ao = none ∧ m = 0) ∨ ∃ ad, ao = some ad ∧ ∀ j u, news[j]? = some u → w.cell? (ad.add j) = some u)
theorem wpList_append_opt {P : Program} {w : World} {ops : Array Oper} {rest : List Oper} {o : Oper} {a : Act} {Q : Exit → Act → World → Prop} (hgd : o.guard = none) (s x : Operand) (t : TypeId)
    (ho : o.op = .call { callee := .builtin .append, args := #[s, x], argTypes := #[t, t] })
    (base : Nat) (e : TypeId) (i : TypeInfo) (z : Value) (size bytes : Nat) (ht : P.underlying t = some (.slice e)) (hi : P.info? e = some i) (hz : i.zero = some z)
    (hsize : i.size = size) (hby : i.bytes = bytes) (hzs : z.cells.size = size) (hsz : 0 < size)
    (v : Value) (n : Nat) (xs : List Value) (hs : a.eval s = v) (hown : w.ownsRow base e size v n xs)
    (ao : Option Addr) (m c : Nat) (news : List Value) (hx : a.eval x = .slice ao m c) (hsrc : SrcAt w ao m size news)
    (h63 : n + m ≤ maxLen) (hbytes : (n + m) * bytes ≤ 140737488355328) (hbase : base ≤ w.heap.size)
    (h : ∀ v' w', w'.ownsRow base e size v' (n + m) (xs ++ news) → w.grownBy w' v.ownBlock → wpList P ops Q rest (a.put o.dst v') w') : wpList P ops Q (o :: rest) a w := by
  obtain ⟨hl, h1, ⟨hao, hm⟩ | ⟨ad, hao, hc⟩⟩ := hsrc
  · subst hao hm
    have hn : news = [] := List.eq_nil_of_length_eq_zero (by rw [hl]; simp)
    subst hn
    refine wpList_plain hgd fun K hK => ?_
    have hrun := run_append_nothing' (P := P) (w := w) base t o.type e i size ht hi v n xs hown c
    unfold Oper.wp
    simp [execOp, ho, resolve, invoke, builtin, hs, hx, hrun, Result.andThen]
    exact hK _ _ (h v w (by rw [List.append_nil, Nat.add_zero]; exact hown) ⟨rfl, rfl, rfl, Nat.le_refl _, fun _ _ _ => rfl⟩)
  · subst hao
    exact wpList_append_own w hgd s x t ho base e i z size bytes ht hi hz hsize hby hzs hsz v n xs hs hown ad m c news hx hl hc h1 h63 hbytes hbase fun v' w' a1 a2 _ => h v' w' a1 a2
theorem PlsAt.src {w : World} {ao : Option Addr} {n : Nat} {l : List Pl} (h : PlsAt w ao n l) : SrcAt w ao n 2 (plVals l) := by
  refine ⟨by rw [plVals_length, h.length], pl_one l, ?_⟩
  rcases Nat.eq_zero_or_pos n with h0 | h0
  · have hl : l = [] := List.eq_nil_of_length_eq_zero (by rw [h.length]; exact h0)
    cases ao with
    | none => exact .inl ⟨rfl, h0⟩
    | some ad => exact .inr ⟨ad, rfl, fun j u hj => by rw [hl] at hj; simp [plVals] at hj⟩
  · obtain ⟨b, off, e, hc⟩ := h.cells h0
    refine .inr ⟨_, e, fun j v hj => ?_⟩
    have hlt : j < (plVals l).length := (List.getElem?_eq_some_iff.1 hj).1
    rw [plVals_length, h.length] at hlt
    have hi : j / 2 < l.length := by rw [h.length]; omega
    have hq : l[j / 2]? = some l[j / 2] := List.getElem?_eq_getElem hi
    obtain ⟨h1, h2⟩ := hc _ _ hq
    have hadd : (⟨b, off, none⟩ : Addr).add j = ⟨b, off + j, none⟩ := by unfold Addr.add; split <;> simp_all
    rw [hadd]
    have key : ∀ k u, (plCells l[j / 2])[k]? = some u → j / 2 * 2 + k = j → v = u := fun k u hu hk => by
      have := flat_get pl_len l _ _ k u hq hu
      rw [hk] at this
      exact Option.some.inj (hj.symm.trans this)
    rcases (show j % 2 = 0 ∨ j % 2 = 1 by omega) with hm | hm
    · rw [key 0 _ rfl (by omega), show off + j = off + j / 2 * 2 by omega]; exact h1
    · rw [key 1 _ rfl (by omega), show off + j = off + j / 2 * 2 + 1 by omega]; exact h2
theorem WdsAt.src {w : World} {ao : Option Addr} {n : Nat} {l : List Wd} (h : WdsAt w ao n l) : SrcAt w ao n 1 (wdVals l) := by
  refine ⟨by rw [wdVals_length, h.length]; omega, wd_one l, ?_⟩
  cases ao with
  | some ad => exact .inr ⟨ad, rfl, h.source ad rfl⟩
  | none =>
    refine .inl ⟨rfl, ?_⟩
    rcases Nat.eq_zero_or_pos n with h0 | h0
    · exact h0
    · obtain ⟨b, off, e, _⟩ := h.cells h0
      cases e
theorem src_new {w : World} (cs : List Value) (t : TypeId) (size : Nat) (hl : cs.length = size) (h1 : ∀ u ∈ cs, u.oneCell' = true) : SrcAt (w.alloc (.cells cs.toArray t)) (some ⟨w.heap.size, 0, none⟩) 1 size cs :=
  ⟨by omega, h1, .inr ⟨_, rfl, cells_new2 w cs t⟩⟩
theorem new_any {k : Int} {refs : List Wd} {w w' : World} {e : Ending} (h : NewPost k refs w e w') : ∃ P, e = .returned (.tuple #[P, .int .i64 (refB k refs)]) ∧ Below w.heap.size w w' := by
  rcases h.2 with ⟨_, he⟩ | ⟨h0, x, mb, f, he, _⟩
  · exact ⟨_, he, h.1⟩
  · exact ⟨_, by rw [he, h0], h.1⟩
def reP (r : Int) (p : Pl) : Pl := (r, p.2)
theorem occ1_re (k r : Nat) (s : Wd) : occ1 k r s = (occ1 k 0 s).map fun o => (o.1, reP r o.2) := by
  rw [occ1, occ1, List.map_map]
  exact List.map_congr_left fun i _ => rfl
theorem pls_re (r : Int) (L : List Oc) (w : Wd) : plsOf (L.map fun o => (o.1, reP r o.2)) w = (plsOf L w).map (reP r) := by
  induction L with
  | nil => rfl
  | cons o L ih =>
    have e1 : plsOf (o :: L) w = plsOf [o] w ++ plsOf L w := pls_append [o] L w
    have e2 : plsOf ((o :: L).map fun o => (o.1, reP r o.2)) w = plsOf [(o.1, reP r o.2)] w ++ plsOf (L.map fun o => (o.1, reP r o.2)) w := pls_append [(o.1, reP r o.2)] _ w
    rw [e1, e2, ih, List.map_append]
    congr 1
    by_cases h : o.1 = w
    · simp [plsOf, h]
    · simp [plsOf, h]
theorem more_pls (k : Nat) (refs : List Wd) (more w : Wd) : plsOf (occ k 0 (refs ++ [more])) w = plsOf (occ k 0 refs) w ++ (plsOf (occ k 0 [more]) w).map (reP refs.length) := by
  rw [occ_snoc, pls_append, Nat.zero_add, occ1_re, pls_re, occ_one]
theorem more_ok {k : Int} {refs : List Wd} {more : Wd} (h : refB k (refs ++ [more]) = 0) : refB k refs = 0 ∧ refB k [more] = 0 := by
  obtain ⟨h1, h2, h3, h4, h5⟩ := ref_ok h
  rw [List.length_append] at h3
  have ht : total (refs ++ [more]) = total refs + more.length := total_snoc refs more
  have key : ∀ l : List Wd, l.length ≤ 64 → (∀ s ∈ l, s.length ≤ 65536) → total l ≤ 1048576 → refB k l = 0 := by
    intro l a b c
    unfold refB
    rw [if_neg (by omega), if_neg (by omega), if_neg]
    rw [not_or]
    refine ⟨fun h => ?_, by omega⟩
    obtain ⟨s, hs, hg⟩ := List.any_eq_true.1 h
    have := b s hs
    simp at hg
    omega
  refine ⟨key refs (by simp at h3; omega) (fun s hs => h4 s (List.mem_append_left _ hs)) (by omega), key [more] (by simp) (fun s hs => h4 s (List.mem_append_right _ hs)) ?_⟩
  simp [total]; omega
end Go.Proofs.Ytnidinppglkcpaa
