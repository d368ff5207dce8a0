/-
  Append of what may be nothing; rows of numbers and of gaps.
-/
import Derived.Test.YtegndeefddlccabPxA
import Derived.Laws.AppendOwnNone
import Derived.Deep.Slices
namespace Go.Proofs.Ytegndeefddlccab
open Go.RowKit

theorem run_append_nothing' {P : Program} {w : World} (base : Nat) (t ty e : TypeId) (i : TypeInfo) (size : Nat) (ht : P.underlying t = some (.slice e)) (hi : P.info? e = some i)
    (v : Value) (n : Nat) (xs : List Value) (hown : w.ownsRow base e size v n xs) (c : Nat) : (Builtin.append_ #[t, t] ty #[v, .slice none 0 c]).run P w = .ok v w := by
  rcases hown.2 with ⟨hv, h0⟩ | ⟨g, cap, cur, hv, _, _, hc, _⟩
  · subst hv
    simp [Builtin.append_, run_underlying ht, sizeOf, typeInfo, hi, Builtin.lenOf, run_firstCells_none]
  · subst hv
    simp [Builtin.append_, run_underlying ht, sizeOf, typeInfo, hi, Builtin.lenOf, run_firstCells_none, hc, storeCells]
/-- What may be appended: some cells, or nothing. -/
def SrcAt (w : World) (ao : Option Addr) (m size : Nat) (news : List Value) : Prop := news.length = m * size ∧ (∀ u ∈ news, u.oneCell' = true) ∧ ((ao = none ∧ m = 0) ∨ ∃ ad, ao = some ad ∧ ∀ j u, news[j]? = some u → w.cell? (ad.add j) = some u)
theorem wpList_append_opt {P : Program} {w : World} {ops : Array Oper} {rest : List Oper} {o : Oper} {a : Act} {Q : Exit → Act → World → Prop} (hgd : o.guard = none) (s x : Operand) (t : TypeId)
    (ho : o.op = .call { callee := .builtin .append, args := #[s, x], argTypes := #[t, t] })
    (base : Nat) (e : TypeId) (i : TypeInfo) (z : Value) (size bytes : Nat) (ht : P.underlying t = some (.slice e)) (hi : P.info? e = some i) (hz : i.zero = some z)
    (hsize : i.size = size) (hby : i.bytes = bytes) (hzs : z.cells.size = size) (hsz : 0 < size)
    (v : Value) (n : Nat) (xs : List Value) (hs : a.eval s = v) (hown : w.ownsRow base e size v n xs)
    (ao : Option Addr) (m c : Nat) (news : List Value) (hx : a.eval x = .slice ao m c) (hsrc : SrcAt w ao m size news)
    (h63 : n + m ≤ maxLen) (hbytes : (n + m) * bytes ≤ 140737488355328) (hbase : base ≤ w.heap.size)
    (h : ∀ v' w', w'.ownsRow base e size v' (n + m) (xs ++ news) → w.grownBy w' v.ownBlock → wpList P ops Q rest (a.put o.dst v') w') : wpList P ops Q (o :: rest) a w := by
  obtain ⟨hl, h1, ⟨hao, hm⟩ | ⟨ad, hao, hc⟩⟩ := hsrc
  · subst hao hm
    have hn : news = [] := List.eq_nil_of_length_eq_zero (by rw [hl]; simp)
    subst hn
    refine wpList_plain hgd fun K hK => ?_
    have hrun := run_append_nothing' (P := P) (w := w) base t o.type e i size ht hi v n xs hown c
    unfold Oper.wp
    simp [execOp, ho, resolve, invoke, builtin, hs, hx, hrun, Result.andThen]
    exact hK _ _ (h v w (by rw [List.append_nil, Nat.add_zero]; exact hown) ⟨rfl, rfl, rfl, Nat.le_refl _, fun _ _ _ => rfl⟩)
  · subst hao
    exact wpList_append_own w hgd s x t ho base e i z size bytes ht hi hz hsize hby hzs hsz v n xs hs hown ad m c news hx hl hc h1 h63 hbytes hbase fun v' w' a1 a2 _ => h v' w' a1 a2
theorem info3 : (Try.prog.info? 3).map (fun i => (i.zero, i.size, i.bytes)) = some (some (.int .i64 0), 1, 8) := by kernel_rfl
theorem info47 : (Try.prog.info? 47).map (fun i => (i.zero, i.size, i.bytes)) = some (some (.agg #[.int .i64 0, .int .i64 0]), 2, 16) := by kernel_rfl
theorem empty_row (W : World) (e : TypeId) (size base : Nat) (hb : base ≤ W.heap.size) (g : Nat) (hg : g = W.heap.size) : (W.alloc (.cells #[] e)).ownsRow base e size (.slice (some ⟨g, 0, none⟩) 0 0) 0 [] := by
  subst hg
  refine ⟨by simp, .inr ⟨W.heap.size, 0, #[], rfl, hb, heap_alloc_new W _, ?_⟩⟩
  simp [maxLen]
def intVals (zs : List Int) : List Value := zs.map (Value.int .i64)
theorem intVals_length (zs : List Int) : (intVals zs).length = zs.length := by simp [intVals]
theorem ints_src {w : World} {ao : Option Addr} {len : Nat} {zs : List Int} (h : IntsAt w ao len zs) : SrcAt w ao len 1 (intVals zs) := by
  refine ⟨by rw [intVals_length, h.length]; simp, fun u hu => ?_, ?_⟩
  · obtain ⟨z, _, rfl⟩ := List.mem_map.1 hu; rfl
  · by_cases h0 : 0 < len
    · obtain ⟨b, off, rfl, hc⟩ := h.cells h0
      refine .inr ⟨_, rfl, fun j u hj => ?_⟩
      have hjl : j < zs.length := by have := (List.getElem?_eq_some_iff.1 hj).1; simpa [intVals] using this
      rw [Go.WideShapes.add_plain, hc j (by rw [← h.length]; exact hjl), ← hj]
      simp [intVals, List.getD, List.getElem?_eq_getElem hjl]
    · have hz : zs = [] := List.eq_nil_of_length_eq_zero (by rw [h.length]; omega)
      subst hz
      cases ao with
      | none => exact .inl ⟨rfl, by omega⟩
      | some ad => exact .inr ⟨ad, rfl, fun j u hj => by simp [intVals] at hj⟩
def gapVals (l : List (Int × Int)) : List Value := l.flatMap fun g => [.int .i64 g.1, .int .i64 g.2]
theorem gapVals_length (l : List (Int × Int)) : (gapVals l).length = l.length * 2 := by
  induction l with
  | nil => rfl
  | cons q r ih => simp only [gapVals, List.flatMap_cons, List.length_append, List.length_cons] at ih ⊢; rw [ih]; simp; omega
theorem gapVals_get (l : List (Int × Int)) : ∀ (i : Nat) (q : Int × Int), l[i]? = some q → (gapVals l)[i * 2]? = some (.int .i64 q.1) ∧ (gapVals l)[i * 2 + 1]? = some (.int .i64 q.2) := by
  induction l with
  | nil => intro i q h; simp at h
  | cons p r ih =>
    intro i q h
    have e : gapVals (p :: r) = [Value.int .i64 p.1, .int .i64 p.2] ++ gapVals r := by simp [gapVals]
    cases i with
    | zero => simp at h; subst h; simp [e]
    | succ i =>
      have := ih i q (by simpa using h)
      rw [e]
      have hl : ([Value.int .i64 p.1, .int .i64 p.2] : List Value).length = 2 := rfl
      refine ⟨?_, ?_⟩
      · rw [List.getElem?_append_right (by rw [hl]; omega), hl, show (i + 1) * 2 - 2 = i * 2 by omega]; exact this.1
      · rw [List.getElem?_append_right (by rw [hl]; omega), hl, show (i + 1) * 2 + 1 - 2 = i * 2 + 1 by omega]; exact this.2
theorem gapVals_cases (l : List (Int × Int)) (j : Nat) (u : Value) (h : (gapVals l)[j]? = some u) : ∃ (i : Nat) (q : Int × Int), l[i]? = some q ∧ ((j = i * 2 ∧ u = .int .i64 q.1) ∨ (j = i * 2 + 1 ∧ u = .int .i64 q.2)) := by
  have hj : j < l.length * 2 := by rw [← gapVals_length]; exact (List.getElem?_eq_some_iff.1 h).1
  have hi : j / 2 < l.length := by omega
  have hq : l[j / 2]? = some l[j / 2] := List.getElem?_eq_getElem hi
  refine ⟨j / 2, l[j / 2], hq, ?_⟩
  obtain ⟨h1, h2⟩ := gapVals_get l (j / 2) _ hq
  rcases Nat.mod_two_eq_zero_or_one j with hm | hm
  · have e : j / 2 * 2 = j := by omega
    rw [e, h] at h1
    cases h1
    exact .inl ⟨e.symm, rfl⟩
  · have e : j / 2 * 2 + 1 = j := by omega
    rw [e, h] at h2
    cases h2
    exact .inr ⟨e.symm, rfl⟩
theorem gaps_src {w : World} {ao : Option Addr} {len : Nat} {l : List (Int × Int)} (h : GpsAt w ao len l) : SrcAt w ao len 2 (gapVals l) := by
  refine ⟨by rw [gapVals_length, h.length], fun u hu => ?_, ?_⟩
  · obtain ⟨g, _, hg⟩ := List.mem_flatMap.1 hu
    simp at hg
    rcases hg with rfl | rfl <;> rfl
  · by_cases h0 : 0 < len
    · obtain ⟨b, off, rfl, hc⟩ := h.cells h0
      refine .inr ⟨_, rfl, fun j u hj => ?_⟩
      obtain ⟨i, q, hq, ⟨rfl, rfl⟩ | ⟨rfl, rfl⟩⟩ := gapVals_cases l j u hj
      · rw [Go.WideShapes.add_plain]; exact (hc i q hq).1
      · rw [Go.WideShapes.add_plain, ← Nat.add_assoc]; exact (hc i q hq).2
    · have hz : l = [] := List.eq_nil_of_length_eq_zero (by rw [h.length]; omega)
      subst hz
      cases ao with
      | none => exact .inl ⟨rfl, by omega⟩
      | some ad => exact .inr ⟨ad, rfl, fun j u hj => by simp [gapVals] at hj⟩
theorem ints_own {w : World} {base : Nat} {ao : Option Addr} {cap n : Nat} {zs : List Int} (h : w.ownsRow base 3 1 (.slice ao n cap) n (intVals zs)) (hn : zs.length = n) (hm : n ≤ maxLen) : IntsAt w ao n zs := by
  refine ⟨hn, hm, fun h0 => ?_⟩
  rcases h.2 with ⟨hv, h00⟩ | ⟨g, cap', cur, hv, _⟩
  · omega
  · cases hv
    refine ⟨g, 0, rfl, fun i hi => ?_⟩
    rw [Nat.zero_add, h.cellAt i (by omega)]
    simp [intVals, List.getD, List.getElem?_eq_getElem (show i < zs.length by omega)]
theorem gaps_own {w : World} {base : Nat} {ao : Option Addr} {cap n : Nat} {l : List (Int × Int)} (h : w.ownsRow base 47 2 (.slice ao n cap) n (gapVals l)) (hn : l.length = n) (hm : n ≤ maxLen) : GpsAt w ao n l := by
  refine ⟨hn, hm, fun h0 => ?_⟩
  rcases h.2 with ⟨hv, h00⟩ | ⟨g, cap', cur, hv, _⟩
  · omega
  · cases hv
    refine ⟨g, 0, rfl, fun i q hi => ?_⟩
    have hil : i < n := by rw [← hn]; exact (List.getElem?_eq_some_iff.1 hi).1
    obtain ⟨h1, h2⟩ := gapVals_get l i q hi
    have k1 := h.cells rfl _ _ h1
    have k2 := h.cells rfl _ _ h2
    rw [Go.WideShapes.add_plain, Nat.zero_add] at k1 k2
    rw [Nat.zero_add]
    exact ⟨k1, k2⟩
end Go.Proofs.Ytegndeefddlccab
