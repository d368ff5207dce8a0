/-
  Rows that a call owns, and the block of the program's reader: what a store, an append, a call leaves of them.
-/
import Derived.Test.YtcleejdlmamdhaaSeqs
import Derived.Lib.AppendStr
namespace Go.Proofs.Ytcleejdlmamdhaa
open Go.RowKit

def byteVals (l : List UInt8) : List Value := l.map fun b => .int .u8 (b.toNat : Int)
theorem strCells_eq (s : ByteArray) : Lib.strCells s = byteVals s.data.toList := rfl
theorem byteVals_length (l : List UInt8) : (byteVals l).length = l.length := by simp [byteVals]
theorem byteVals_append (a b : List UInt8) : byteVals (a ++ b) = byteVals a ++ byteVals b := by simp [byteVals]
def rowCells (qs : List Sq) : List Value := qs.flatMap sqCells
theorem rowCells_length (qs : List Sq) : (rowCells qs).length = qs.length * 3 := by
  induction qs with
  | nil => rfl
  | cons q r ih => simp only [rowCells, List.flatMap_cons, List.length_append, List.length_cons] at ih ⊢; rw [ih]; simp [sqCells]; omega
theorem rowCells_snoc (qs : List Sq) (q : Sq) : rowCells (qs ++ [q]) = rowCells qs ++ sqCells q := by simp [rowCells]
theorem rowCells_append (a b : List Sq) : rowCells (a ++ b) = rowCells a ++ rowCells b := by simp [rowCells]
theorem rowCells_get (qs : List Sq) : ∀ (i : Nat) (q : Sq), qs[i]? = some q → (rowCells qs)[i * 3]? = some (.string q.1) ∧ (rowCells qs)[i * 3 + 1]? = some (.string q.2.1) ∧ (rowCells qs)[i * 3 + 2]? = some (.string q.2.2) := by
  induction qs with
  | nil => intro i q h; simp at h
  | cons p r ih =>
    intro i q h
    cases i with
    | zero =>
      simp at h; subst h
      simp [rowCells, sqCells]
    | succ i =>
      have := ih i q (by simpa using h)
      have e : rowCells (p :: r) = sqCells p ++ rowCells r := by simp [rowCells]
      rw [e]
      have hl : (sqCells p).length = 3 := rfl
      refine ⟨?_, ?_, ?_⟩
      · rw [List.getElem?_append_right (by rw [hl]; omega), hl, show (i + 1) * 3 - 3 = i * 3 by omega]; exact this.1
      · rw [List.getElem?_append_right (by rw [hl]; omega), hl, show (i + 1) * 3 + 1 - 3 = i * 3 + 1 by omega]; exact this.2.1
      · rw [List.getElem?_append_right (by rw [hl]; omega), hl, show (i + 1) * 3 + 2 - 3 = i * 3 + 2 by omega]; exact this.2.2
theorem sq_oneCell (q : Sq) : ∀ u ∈ sqCells q, u.oneCell' = true := by
  intro u hu
  simp [sqCells] at hu
  rcases hu with rfl | rfl | rfl <;> rfl

theorem owned_shape {w : World} {base : Nat} {e : TypeId} {size : Nat} {v : Value} {n : Nat} {xs : List Value} (h : w.ownsRow base e size v n xs) : ∃ ao cap, v = .slice ao n cap := by
  rcases h.2 with ⟨rfl, rfl⟩ | ⟨g, cap, _, rfl, _⟩
  · exact ⟨none, 0, rfl⟩
  · exact ⟨some ⟨g, 0, none⟩, cap, rfl⟩
theorem lt_block {w : World} {g : Nat} {o : Obj} (h : w.heap[g]? = some o) : g < w.heap.size := (Array.getElem?_eq_some_iff.1 h).1
/-- A row stays owned where its block stays as it is. -/
theorem owned_of_block {w w' : World} {base : Nat} {e : TypeId} {size : Nat} {v : Value} {n : Nat} {xs : List Value} (h : w.ownsRow base e size v n xs)
    (hk : ∀ g cur, v.ownBlock = some g → w.heap[g]? = some (.cells cur e (0, 0)) → w'.heap[g]? = w.heap[g]?) : w'.ownsRow base e size v n xs := by
  refine ⟨h.1, ?_⟩
  rcases h.2 with hn | ⟨g, cap, cur, hv, hb, hg, rest⟩
  · exact .inl hn
  · exact .inr ⟨g, cap, cur, hv, hb, by rw [hk g cur (by rw [hv]; rfl) hg]; exact hg, rest⟩
theorem owned_setOther {w : World} {base : Nat} {e t : TypeId} {size : Nat} {v : Value} {n : Nat} {xs : List Value} (h : w.ownsRow base e size v n xs) {b i : Nat} {cs : Array Value} {f : Nat × Nat}
    (hb : w.heap[b]? = some (.cells cs t f)) (hne : e ≠ t) (u : Value) : (w.setCell ⟨b, i, none⟩ u).ownsRow base e size v n xs :=
  owned_of_block h fun g cur _ hg => Below.heap_setCell w _ u g (fun e' => by
    have e'' : g = b := e'
    rw [e''] at hg; rw [hb] at hg; cases hg; exact hne rfl)
theorem owned_below {w w' : World} {base : Nat} {e : TypeId} {size : Nat} {v : Value} {n : Nat} {xs : List Value} (h : w.ownsRow base e size v n xs) (hb : Below w.heap.size w w') : w'.ownsRow base e size v n xs :=
  owned_of_block h fun g _ _ hg => hb.block g (lt_block hg)
theorem owned_grown {w w' : World} {base : Nat} {e t : TypeId} {size : Nat} {v : Value} {n : Nat} {xs : List Value} (h : w.ownsRow base e size v n xs) {v2 : Value} {n2 : Nat} {xs2 : List Value} {base2 size2 : Nat}
    (h2 : w.ownsRow base2 t size2 v2 n2 xs2) (hne : e ≠ t) (hg : w.grownBy w' v2.ownBlock) : w'.ownsRow base e size v n xs :=
  owned_of_block h fun g cur _ hc => hg.block g (lt_block hc) (fun e' => by
    rcases h2.2 with ⟨hv, _⟩ | ⟨g', cap', cur', hv, _, hg', _⟩
    · rw [hv] at e'; cases e'
    · rw [hv] at e'; simp [Value.ownBlock] at e'; subst e'; rw [hg'] at hc; cases hc; exact hne rfl)
theorem owned_set {w : World} {base : Nat} {e : TypeId} {size : Nat} {g n cap : Nat} {xs : List Value} (h : w.ownsRow base e size (.slice (some ⟨g, 0, none⟩) n cap) n xs) (j : Nat) (u : Value) :
    (w.setCell ⟨g, j, none⟩ u).ownsRow base e size (.slice (some ⟨g, 0, none⟩) n cap) n (xs.set j u) := by
  refine ⟨by simp [h.1], ?_⟩
  rcases h.2 with ⟨hv, _⟩ | ⟨g', cap', cur, hv, hb, hg, h1, h2, h3, h4⟩
  · cases hv
  · cases hv
    exact .inr ⟨g, cap, cur.setIfInBounds j u, rfl, hb, heap_setCell_same w g j cur e u hg, h1, h2, by simp [h3], by simp [List.take_set, h4]⟩
theorem owned_cells {w : World} {base : Nat} {e : TypeId} {size : Nat} {g n cap : Nat} {xs : List Value} (h : w.ownsRow base e size (.slice (some ⟨g, 0, none⟩) n cap) n xs) (j : Nat) (u : Value) (hj : xs[j]? = some u) :
    w.cell? ⟨g, j, none⟩ = some u ∧ w.frozen? ⟨g, j, none⟩ = false := by
  rcases h.2 with ⟨hv, _⟩ | ⟨g', cap', cur, hv, hb, hg, h1, h2, h3, h4⟩
  · cases hv
  · cases hv
    refine ⟨?_, frozen_of_row w g j cur e hg⟩
    rw [cell_of_row w g j cur e (0, 0) hg]
    rw [← h4] at hj
    have h5 : j < (cur.toList.take (n * size)).length := (List.getElem?_eq_some_iff.1 hj).1
    have h6 : j < n * size := by simp at h5; omega
    rw [List.getElem?_take_of_lt h6] at hj
    simpa using hj
theorem owned_sqs {w : World} {base : Nat} {ao : Option Addr} {n cap : Nat} {qs : List Sq} (h : w.ownsRow base 29 3 (.slice ao n cap) n (rowCells qs)) : SqsAt w ao n qs := by
  have hl : qs.length = n := by have := h.1; rw [rowCells_length] at this; omega
  rcases h.2 with ⟨hv, rfl⟩ | ⟨g, cap', cur, hv, hb, hg, h1, h2, h3, h4⟩
  · exact ⟨hl, by decide, fun h0 => absurd h0 (by omega)⟩
  · cases hv
    refine ⟨hl, by omega, fun _ => ⟨g, 0, rfl, fun i q hi => ?_⟩⟩
    obtain ⟨r1, r2, r3⟩ := rowCells_get qs i q hi
    simp only [Nat.zero_add]
    exact ⟨(owned_cells h _ _ r1).1, (owned_cells h _ _ r2).1, (owned_cells h _ _ r3).1⟩
theorem owned_text {w : World} {base : Nat} {ao : Option Addr} {n cap : Nat} {t : List UInt8} (h : w.ownsRow base 5 1 (.slice ao n cap) n (byteVals t)) :
    (convert 43 9 (.slice ao n cap)).run Try.prog w = .ok (.string ⟨t.toArray⟩) w := by
  have hl : t.length = n := by simpa [byteVals] using h.1
  rcases h.2 with ⟨hv, rfl⟩ | ⟨g, cap', cur, hv, hb, hg, _⟩
  · cases hv
    have ht : t = [] := List.eq_nil_of_length_eq_zero hl
    subst ht
    rw [run_convert_bytes_string w 43 9 5 none 0 0 Try.underlying43 Try.underlying5 Try.underlying9]
    rfl
  · cases hv
    subst hl
    refine run_convert_bytes_back w 43 9 5 ⟨g, 0, none⟩ cap t Try.underlying43 Try.underlying5 Try.underlying9 ?_
    intro j hj
    have hadd : (⟨g, 0, none⟩ : Addr).add j = ⟨g, j, none⟩ := by unfold Addr.add; split <;> simp_all
    rw [hadd]
    exact (owned_cells h j _ (by simp [byteVals, hj])).1
theorem owned_none {w : World} {base : Nat} {ao : Option Addr} {n cap : Nat} {e : TypeId} {size : Nat} {xs : List Value} (h : w.ownsRow base e size (.slice ao n cap) n xs) : w.ownsRow base e size (.slice ao 0 cap) 0 [] := by
  refine ⟨by simp, ?_⟩
  rcases h.2 with ⟨hv, rfl⟩ | ⟨g, cap', cur, hv, hb, hg, h1, h2, h3, h4⟩
  · cases hv; exact .inl ⟨rfl, rfl⟩
  · cases hv; exact .inr ⟨g, cap, cur, rfl, hb, hg, Nat.zero_le _, h2, h3, by simp⟩

/-! The reader's block -/
structure RAt (B b : Nat) (rest line : ByteArray) (num : Nat) (sv : Value) (qs : List Sq) (bv : Value) (bases : List UInt8) (w : World) : Prop where
  base : B ≤ b
  block : w.heap[b]? = some (.cells #[.string rest, .string line, .int .i64 num, sv, bv] 45 (0, 0))
  seqs : w.ownsRow B 29 3 sv qs.length (rowCells qs)
  text : w.ownsRow B 5 1 bv bases.length (byteVals bases)
section
variable {B b : Nat} {rest line : ByteArray} {num : Nat} {sv : Value} {qs : List Sq} {bv : Value} {bases : List UInt8} {w : World}
theorem RAt.cell0 (h : RAt B b rest line num sv qs bv bases w) : w.cell? ⟨b, 0, none⟩ = some (.string rest) := by rw [cell_of_row w b 0 _ _ _ h.block]; rfl
theorem RAt.cell1 (h : RAt B b rest line num sv qs bv bases w) : w.cell? ⟨b, 1, none⟩ = some (.string line) := by rw [cell_of_row w b 1 _ _ _ h.block]; rfl
theorem RAt.cell2 (h : RAt B b rest line num sv qs bv bases w) : w.cell? ⟨b, 2, none⟩ = some (.int .i64 num) := by rw [cell_of_row w b 2 _ _ _ h.block]; rfl
theorem RAt.cell3 (h : RAt B b rest line num sv qs bv bases w) : w.cell? ⟨b, 3, none⟩ = some sv := by rw [cell_of_row w b 3 _ _ _ h.block]; rfl
theorem RAt.cell4 (h : RAt B b rest line num sv qs bv bases w) : w.cell? ⟨b, 4, none⟩ = some bv := by rw [cell_of_row w b 4 _ _ _ h.block]; rfl
theorem RAt.frozen (h : RAt B b rest line num sv qs bv bases w) (i : Nat) : w.frozen? ⟨b, i, none⟩ = false := frozen_of_row w b i _ _ h.block
theorem RAt.lt (h : RAt B b rest line num sv qs bv bases w) : b < w.heap.size := lt_block h.block
theorem RAt.below {w' : World} (h : RAt B b rest line num sv qs bv bases w) (hb : Below w.heap.size w w') : RAt B b rest line num sv qs bv bases w' :=
  ⟨h.base, by rw [hb.block b h.lt]; exact h.block, owned_below h.seqs hb, owned_below h.text hb⟩
theorem RAt.put0 (h : RAt B b rest line num sv qs bv bases w) (r : ByteArray) : RAt B b r line num sv qs bv bases (w.setCell ⟨b, 0, none⟩ (.string r)) :=
  ⟨h.base, by rw [heap_setCell_same w b 0 _ _ _ h.block]; rfl, owned_setOther h.seqs h.block (by decide) _, owned_setOther h.text h.block (by decide) _⟩
theorem RAt.put1 (h : RAt B b rest line num sv qs bv bases w) (r : ByteArray) : RAt B b rest r num sv qs bv bases (w.setCell ⟨b, 1, none⟩ (.string r)) :=
  ⟨h.base, by rw [heap_setCell_same w b 1 _ _ _ h.block]; rfl, owned_setOther h.seqs h.block (by decide) _, owned_setOther h.text h.block (by decide) _⟩
theorem RAt.put2 (h : RAt B b rest line num sv qs bv bases w) (m : Nat) (z : Int) (e : z = (m : Int)) : RAt B b rest line m sv qs bv bases (w.setCell ⟨b, 2, none⟩ (.int .i64 z)) := by
  subst e
  exact ⟨h.base, by rw [heap_setCell_same w b 2 _ _ _ h.block]; rfl, owned_setOther h.seqs h.block (by decide) _, owned_setOther h.text h.block (by decide) _⟩
theorem RAt.drew (h : RAt B b rest line num sv qs bv bases w) : RAt B b rest line num sv qs bv bases w.drew := h.below (Below.refl _ _).drew
theorem RAt.alloc (h : RAt B b rest line num sv qs bv bases w) (o : Obj) : RAt B b rest line num sv qs bv bases (w.alloc o) := h.below ((Below.refl _ _).alloc (Nat.le_refl _) o)
theorem RAt.put4 (h : RAt B b rest line num sv qs bv bases w) {u : Value} {l : List UInt8} (hu : (w.setCell ⟨b, 4, none⟩ u).ownsRow B 5 1 u l.length (byteVals l)) : RAt B b rest line num sv qs u l (w.setCell ⟨b, 4, none⟩ u) :=
  ⟨h.base, by rw [heap_setCell_same w b 4 _ _ _ h.block]; rfl, owned_setOther h.seqs h.block (by decide) _, hu⟩
theorem RAt.put3 (h : RAt B b rest line num sv qs bv bases w) {u : Value} {ps : List Sq} (hu : (w.setCell ⟨b, 3, none⟩ u).ownsRow B 29 3 u ps.length (rowCells ps)) : RAt B b rest line num u ps bv bases (w.setCell ⟨b, 3, none⟩ u) :=
  ⟨h.base, by rw [heap_setCell_same w b 3 _ _ _ h.block]; rfl, hu, owned_setOther h.text h.block (by decide) _⟩
theorem RAt.clear4 {ao : Option Addr} {cap : Nat} (h : RAt B b rest line num sv qs (.slice ao bases.length cap) bases w) : RAt B b rest line num sv qs (.slice ao 0 cap) [] (w.setCell ⟨b, 4, none⟩ (.slice ao 0 cap)) :=
  h.put4 (owned_setOther (owned_none h.text) h.block (by decide) _)
theorem rowCells_set (qs : List Sq) (q : Sq) (t : ByteArray) : (rowCells (qs ++ [q])).set (qs.length * 3 + 2) (.string t) = rowCells (qs ++ [(q.1, q.2.1, t)]) := by
  rw [rowCells_snoc, rowCells_snoc, List.set_append_right _ _ (by rw [rowCells_length]; omega), rowCells_length, show qs.length * 3 + 2 - qs.length * 3 = 2 by omega]
  rfl
theorem RAt.lay {qs0 : List Sq} {q0 : Sq} {g n cap : Nat} (h : RAt B b rest line num (.slice (some ⟨g, 0, none⟩) n cap) (qs0 ++ [q0]) bv bases w) (t : ByteArray) :
    RAt B b rest line num (.slice (some ⟨g, 0, none⟩) n cap) (qs0 ++ [(q0.1, q0.2.1, t)]) bv bases (w.setCell ⟨g, qs0.length * 3 + 2, none⟩ (.string t)) := by
  have hs := h.seqs
  obtain ⟨ao, cp, e⟩ := owned_shape hs
  cases e
  obtain ⟨cur, hg⟩ : ∃ cur, w.heap[g]? = some (.cells cur 29 (0, 0)) := by
    rcases hs.2 with ⟨hv, hz⟩ | ⟨g', cap', cur, hv, _, hg, _⟩
    · cases hv
    · cases hv; exact ⟨cur, hg⟩
  have hne : b ≠ g := by
    intro e; have := h.block; rw [e, hg] at this; cases this
  refine ⟨h.base, ?_, ?_, owned_setOther h.text hg (by decide) _⟩
  · rw [Below.heap_setCell w _ _ b hne]; exact h.block
  · have := owned_set hs (qs0.length * 3 + 2) (.string t)
    rw [rowCells_set] at this
    simpa using this
theorem RAt.not_row {e : TypeId} {size n base : Nat} {v : Value} {xs : List Value} (h : RAt B b rest line num sv qs bv bases w) (ho : w.ownsRow base e size v n xs) (he : e ≠ 45) : some b ≠ v.ownBlock := by
  intro e'
  rcases ho.2 with ⟨hv, _⟩ | ⟨g', cap', cur', hv, _, hg', _⟩
  · rw [hv] at e'; cases e'
  · rw [hv] at e'; simp [Value.ownBlock] at e'; subst e'; have := h.block; rw [hg'] at this; cases this; exact he rfl
theorem RAt.append4 {w2 : World} {u : Value} {l : List UInt8} (h : RAt B b rest line num sv qs bv bases w) (hg : w.grownBy w2 bv.ownBlock) (ho : w2.ownsRow B 5 1 u l.length (byteVals l)) :
    w2.cell? ⟨b, 4, none⟩ = some bv ∧ w2.frozen? ⟨b, 4, none⟩ = false ∧ RAt B b rest line num sv qs u l (w2.setCell ⟨b, 4, none⟩ u) := by
  have hb : w2.heap[b]? = some (.cells #[.string rest, .string line, .int .i64 num, sv, bv] 45 (0, 0)) := by
    rw [hg.block b h.lt (h.not_row h.text (by decide))]; exact h.block
  have hs : w2.ownsRow B 29 3 sv qs.length (rowCells qs) := owned_grown h.seqs h.text (by decide) hg
  refine ⟨by rw [cell_of_row w2 b 4 _ _ _ hb]; rfl, frozen_of_row w2 b 4 _ _ hb, h.base, by rw [heap_setCell_same w2 b 4 _ _ _ hb]; rfl, owned_setOther hs hb (by decide) _, owned_setOther ho hb (by decide) _⟩
theorem RAt.append3 {w2 : World} {u : Value} {ps : List Sq} (h : RAt B b rest line num sv qs bv bases w) (hg : w.grownBy w2 sv.ownBlock) (ho : w2.ownsRow B 29 3 u ps.length (rowCells ps)) :
    w2.cell? ⟨b, 3, none⟩ = some sv ∧ w2.frozen? ⟨b, 3, none⟩ = false ∧ RAt B b rest line num u ps bv bases (w2.setCell ⟨b, 3, none⟩ u) := by
  have hb : w2.heap[b]? = some (.cells #[.string rest, .string line, .int .i64 num, sv, bv] 45 (0, 0)) := by
    rw [hg.block b h.lt (h.not_row h.seqs (by decide))]; exact h.block
  have hs : w2.ownsRow B 5 1 bv bases.length (byteVals bases) := owned_grown h.text h.seqs (by decide) hg
  refine ⟨by rw [cell_of_row w2 b 3 _ _ _ hb]; rfl, frozen_of_row w2 b 3 _ _ hb, h.base, by rw [heap_setCell_same w2 b 3 _ _ _ hb]; rfl, owned_setOther ho hb (by decide) _, owned_setOther hs hb (by decide) _⟩
end
end Go.Proofs.Ytcleejdlmamdhaa
