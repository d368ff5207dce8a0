/-
  DeleteFunc over a row of edges.
-/
import Derived.Test.YtolehoibpnenlabPdB
namespace Go.Proofs.Ytolehoibpnenlab
open Go.RowKit Go.Deep Go.Maps

/-- What is done up to j: i are kept. -/
structure KI (p : Int × Int → Bool) (l cur : List (Int × Int)) (j i : Nat) : Prop where
  len : cur.length = l.length
  lt : i < j
  le : j ≤ l.length
  head : cur.take i = (l.take j).filter fun e => !p e
  tail : cur.drop j = l.drop j
section
variable {p : Int × Int → Bool} {l cur : List (Int × Int)} {j i : Nat} {e : Int × Int}
theorem KI.get (h : KI p l cur j i) (hj : l[j]? = some e) : cur[j]? = some e := by
  have h1 : (cur.drop j)[0]? = (l.drop j)[0]? := by rw [h.tail]
  rw [List.getElem?_drop, List.getElem?_drop, Nat.add_zero] at h1
  rw [h1]; exact hj
theorem take_get (hj : l[j]? = some e) : l.take (j + 1) = l.take j ++ [e] := by
  obtain ⟨h1, h2⟩ := List.getElem?_eq_some_iff.1 hj
  rw [List.take_succ_eq_append_getElem h1, h2]
theorem KI.start {k : Nat} (hk : l[k]? = some e) (hp : p e = true) (hb : ∀ (j : Nat) (e : Int × Int), j < k → l[j]? = some e → p e = false) : KI p l l (k + 1) k := by
  refine ⟨rfl, by omega, (List.getElem?_eq_some_iff.1 hk).1, ?_, rfl⟩
  rw [take_get hk, List.filter_append, List.filter_eq_self.2 fun z hz => ?_]
  · simp [hp]
  · obtain ⟨m, hm, rfl⟩ := List.mem_iff_getElem.1 hz
    rw [List.length_take] at hm
    rw [List.getElem_take, hb m _ (by omega) (List.getElem?_eq_getElem (by omega))]
    rfl
theorem KI.skip (h : KI p l cur j i) (he : l[j]? = some e) (hp : p e = true) : KI p l cur (j + 1) i := by
  refine ⟨h.len, by have := h.lt; omega, (List.getElem?_eq_some_iff.1 he).1, ?_, ?_⟩
  · rw [take_get he, List.filter_append, h.head]; simp [hp]
  · have h1 := congrArg (List.drop 1) h.tail
    rwa [List.drop_drop, List.drop_drop] at h1
theorem KI.keep (h : KI p l cur j i) (he : l[j]? = some e) (hp : p e = false) : KI p l (cur.set i e) (j + 1) (i + 1) := by
  have hlt := h.lt
  have hjl := (List.getElem?_eq_some_iff.1 he).1
  have hil : i < cur.length := by have := h.len; omega
  refine ⟨by rw [List.length_set]; exact h.len, by omega, hjl, ?_, ?_⟩
  · rw [take_get he, List.filter_append, ← h.head, List.take_succ_eq_append_getElem (by rw [List.length_set]; exact hil), List.getElem_set_self, List.take_set_of_le (Nat.le_refl _)]
    simp [hp]
  · rw [List.drop_set_of_lt (by omega)]
    have h1 := congrArg (List.drop 1) h.tail
    rwa [List.drop_drop, List.drop_drop] at h1
theorem KI.done (h : KI p l cur j i) (hj : j = l.length) : cur.take i = l.filter fun e => !p e := by
  rw [h.head, hj, List.take_length]
end
theorem pcRow_take (l : List (Int × Int)) (i : Nat) : (pcRow l).take (i * 2) = pcRow (l.take i) := by
  unfold pcRow
  induction l generalizing i with
  | nil => simp
  | cons a r ih =>
    cases i with
    | zero => simp
    | succ i =>
      rw [List.take_succ_cons, List.flatMap_cons, List.flatMap_cons, ← ih i, show (i + 1) * 2 = (pcCells a).length + i * 2 by simp [pcCells]; omega, List.take_length_add_append]
theorem pcRow_put (l : List (Int × Int)) (i : Nat) (e : Int × Int) : ((pcRow l).set (i * 2) (.int .i64 e.1)).set (i * 2 + 1) (.int .i64 e.2) = pcRow (l.set i e) := by
  unfold pcRow
  induction l generalizing i with
  | nil => simp
  | cons a r ih =>
    cases i with
    | zero => simp [pcCells]
    | succ i =>
      rw [List.set_cons_succ, List.flatMap_cons, List.flatMap_cons, ← ih i, show (i + 1) * 2 = i * 2 + 1 + 1 by omega]
      simp [pcCells]
theorem pcRow_at {l : List (Int × Int)} {i : Nat} {e : Int × Int} (h : l[i]? = some e) : (pcRow l)[i * 2]? = some (.int .i64 e.1) ∧ (pcRow l)[i * 2 + 1]? = some (.int .i64 e.2) :=
  ⟨flat_get (f := pcCells) (s := 2) (fun _ => rfl) l i e 0 _ h rfl, flat_get (f := pcCells) (s := 2) (fun _ => rfl) l i e 1 _ h rfl⟩
end Go.Proofs.Ytolehoibpnenlab
