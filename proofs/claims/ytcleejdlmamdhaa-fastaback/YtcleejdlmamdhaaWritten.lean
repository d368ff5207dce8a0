/-
  The walk of the document's own written: a sequence as lines of a width.
-/
import Derived.Test.YtcleejdlmamdhaaRefPrint
import Derived.ArgAppend
namespace Go.Proofs.Ytcleejdlmamdhaa
open Go.RowKit

/-- A row of bytes that the call made, out of a text or by growth. -/
def ByRow (w : World) (base : Nat) (v : Value) (l : List UInt8) : Prop :=
  ∃ (g cap : Nat) (cur : Array Value) (lo hi : Nat), v = .slice (some ⟨g, 0, none⟩) l.length cap ∧ base ≤ g ∧ w.heap[g]? = some (.cells cur 5 (lo, hi)) ∧ cap ≤ cur.size ∧ (cap ≤ lo ∨ hi = 0) ∧ cur.toList.take l.length = byteVals l
theorem by_of_owned {w : World} {base : Nat} {v : Value} {l : List UInt8} (h : w.ownsRow base 5 1 v l.length (byteVals l)) (h0 : l ≠ []) : ByRow w base v l := by
  rcases h.2 with ⟨_, hz⟩ | ⟨g, cap, cur, hv, hb, hg, h1, h2, h3, h4⟩
  · exact absurd (List.eq_nil_of_length_eq_zero hz) h0
  · exact ⟨g, cap, cur, 0, 0, hv, hb, hg, by omega, .inr rfl, by simpa using h4⟩
theorem by_cell {w : World} {g : Nat} {cur : Array Value} {lo hi : Nat} {l : List UInt8} (hg : w.heap[g]? = some (.cells cur 5 (lo, hi))) (ht : cur.toList.take l.length = byteVals l) (j : Nat) (u : Value) (hj : (byteVals l)[j]? = some u) : w.cell? ⟨g, j, none⟩ = some u := by
  rw [cell_of_row w g j cur 5 (lo, hi) hg]
  rw [← ht] at hj
  have h5 : j < (cur.toList.take l.length).length := (List.getElem?_eq_some_iff.1 hj).1
  have h6 : j < l.length := by simp at h5; omega
  rw [List.getElem?_take_of_lt h6] at hj
  simpa using hj
theorem ByRow.below {w w' : World} {base : Nat} {v : Value} {l : List UInt8} (h : ByRow w base v l) (hb : Below w.heap.size w w') : ByRow w' base v l := by
  obtain ⟨g, cap, cur, lo, hi, h1, h2, h3, h4⟩ := h
  exact ⟨g, cap, cur, lo, hi, h1, h2, by rw [hb.block g (lt_block h3)]; exact h3, h4⟩
theorem set_any {w : World} {b i : Nat} {cs : Array Value} {T : TypeId} {fr : Nat × Nat} (hb : w.heap[b]? = some (.cells cs T fr)) (v : Value) : (w.setCell ⟨b, i, none⟩ v).heap[b]? = some (.cells (cs.setIfInBounds i v) T fr) := by
  simp [World.setCell, Array.getElem?_modify, hb]
theorem add_addr (g j : Nat) : (⟨g, 0, none⟩ : Addr).add j = ⟨g, j, none⟩ := by unfold Addr.add; split <;> simp_all

theorem wpList_append_by (w : World) {ops : Array Oper} {rest : List Oper} {o : Oper} {a : Act} {Q : Exit → Act → World → Prop} (hg : o.guard = none) (s x : Operand)
    (hop : o.op = Op.call { callee := Callee.builtin Builtin.append, args := #[s, x], argTypes := #[43, 43] }) (base : Nat) (v : Value) (l : List UInt8) (hs : a.eval s = v) (hrow : ByRow w base v l)
    (ad : Addr) (c : UInt8) (hx : a.eval x = .slice (some ad) 1 1) (hc : w.cell? (ad.add 0) = some (.int .u8 (c.toNat : Int))) (hlen : l.length + 1 ≤ 140737488355328) (hbase : base ≤ w.heap.size)
    (h : ∀ v' w', ByRow w' base v' (l ++ [c]) → Below base w w' → Keep w w' → wpList Try.prog ops Q rest (a.put o.dst v') w') : wpList Try.prog ops Q (o :: rest) a w := by
  obtain ⟨i0, hi, hz0, hz1, hz2⟩ := info_parts info5
  obtain ⟨g, cap, cur, lo, hi', rfl, hb, hgk, hcap, hfz, ht⟩ := hrow
  have hl : byteVals (l ++ [c]) = byteVals l ++ [.int .u8 (c.toNat : Int)] := by simp [byteVals]
  refine wpList_append_arg w hg s x 43 hop 5 i0 (.int .u8 0) 1 1 Try.underlying43 hi hz0 hz1 hz2 rfl (by decide) g 0 l.length cap (byteVals l) hs (by rw [byteVals_length]; omega)
    (fun j u hj => by rw [Nat.zero_add]; exact by_cell hgk ht j u hj) ad 1 1 [.int .u8 (c.toNat : Int)] hx rfl ?_ ?_ ?_ (by unfold maxLen; omega) (by omega) ?_ ?_
  · intro j u hu
    match j, hu with
    | 0, hu => simp at hu; subst hu; exact hc
  · intro u hu; simp at hu; subst hu; rfl
  · intro hr j hj
    simp at hj
    subst hj
    simp only [Nat.zero_add, Nat.mul_one, Nat.add_zero]
    refine ⟨?_, ?_⟩
    · rw [cell_of_row w g l.length cur 5 (lo, hi') hgk, Array.getElem?_eq_getElem (by omega)]; rfl
    · simp only [World.frozen?, hgk]
      rcases hfz with h1 | h1
      · simp; omega
      · simp [h1]
  · intro hr
    have e : w.setCells g (0 + l.length * 1) [.int .u8 (c.toNat : Int)] = w.setCell ⟨g, l.length, none⟩ (.int .u8 (c.toNat : Int)) := by
      simp [World.setCells]
    rw [e]
    refine h _ _ ?_ ((Below.refl base w).setCell (p := ⟨g, l.length, none⟩) hb _) ((Keep.refl w).setCell hgk (by decide) _)
    refine ⟨g, cap, cur.setIfInBounds l.length (.int .u8 (c.toNat : Int)), lo, hi', by simp, hb, set_any hgk _, by simpa using hcap, hfz, ?_⟩
    rw [hl, ← ht]
    have h1 : l.length < cur.toList.length := by simp; omega
    simp only [Array.toList_setIfInBounds, List.length_append, List.length_singleton]
    rw [List.take_succ_eq_append_getElem (by simpa using h1), List.take_set_of_le (Nat.le_refl _)]
    simp
  · intro hr v' w' ho hgr
    refine h v' w' ?_ ((Below.refl base w).grown hgr hbase (fun k hk => by cases hk)) (fun g' cs f hg' => by
      rw [hgr.block g' (lt_block hg') (by simp)]; exact hg')
    have ho2 : w'.ownsRow base 5 1 v' (l ++ [c]).length (byteVals (l ++ [c])) := by
      rw [hl, List.length_append]; exact owned_base ho hbase
    exact by_of_owned ho2 (by simp)

theorem by_new (w : World) (s : ByteArray) (cap hi : Nat) : ByRow (w.alloc (.cells (bytesRow s cap) 5 ((bytesRow s cap).size, hi))).drew w.heap.size (.slice (some ⟨w.heap.size, 0, none⟩) s.size cap) s.data.toList := by
  refine ⟨w.heap.size, cap, bytesRow s cap, (bytesRow s cap).size, hi, by simp, Nat.le_refl _, heap_alloc_new w _, ?_, .inl ?_, ?_⟩
  · simp [bytesRow]; omega
  · simp [bytesRow]; omega
  · simp [bytesRow, byteVals]
end Go.Proofs.Ytcleejdlmamdhaa
