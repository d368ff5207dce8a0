/-
  The walk of the document's own Columns.
-/
import Derived.Test.YtdhphipdpjhhbaaGreatDoorRefRight
import Derived.Test.YtdhphipdpjhhbaaGreatDoorCols
namespace Go.Proofs.YtdhphipdpjhhbaaGreatDoor
open Go.RowKit

theorem owned_text {w : World} {base : Nat} {ao : Option Addr} {n cap : Nat} {t : List UInt8} (h : w.ownsRow base 5 1 (.slice ao n cap) n (byteVals t)) :
    (convert 53 9 (.slice ao n cap)).run Tryz.prog w = .ok (.string ⟨t.toArray⟩) w := by
  have hl : t.length = n := by simpa [byteVals] using h.1
  rcases h.2 with ⟨hv, rfl⟩ | ⟨g, cap', cur, hv, hb, hg, _⟩
  · cases hv
    have ht : t = [] := List.eq_nil_of_length_eq_zero hl
    subst ht
    rw [run_convert_bytes_string w 53 9 5 none 0 0 Tryz.underlying53 Tryz.underlying5 Tryz.underlying9]
    rfl
  · cases hv
    subst hl
    refine run_convert_bytes_back w 53 9 5 ⟨g, 0, none⟩ cap t Tryz.underlying53 Tryz.underlying5 Tryz.underlying9 ?_
    intro j hj
    have hadd : (⟨g, 0, none⟩ : Addr).add j = ⟨g, j, none⟩ := by unfold Addr.add; split <;> simp_all
    rw [hadd]
    exact (owned_cells h j _ (by simp [byteVals, hj])).1
/-- A row of bytes that a call owns, in a world that has grown since. -/
def BufAt (B : Nat) (acc : List UInt8) (v : Value) (w w' : World) : Prop := w'.ownsRow B 5 1 v acc.length (byteVals acc) ∧ Below B w w'
theorem BufAt.snoc {B : Nat} {acc : List UInt8} {v v' : Value} {w wr w3 : World} {c : UInt8} {o : Obj} (h : BufAt B acc v w wr) (hB : B ≤ wr.heap.size) (ho : w3.ownsRow B 5 1 v' (acc.length + 1) (byteVals acc ++ [.int .u8 (c.toNat : Int)])) (hg : (wr.alloc o).grownBy w3 v.ownBlock) : BufAt B (acc ++ [c]) v' w w3 := by
  refine ⟨?_, h.2.trans (below_append h.1 hB hg)⟩
  rw [byteVals_append, List.length_append]
  exact ho
theorem one_cell (c : UInt8) : ∀ u ∈ [Value.int .u8 (c.toNat : Int)], u.oneCell' = true := by
  intro u hu; simp at hu; subst hu; rfl
theorem replicate_snoc (acc : List UInt8) (k : Nat) (c : UInt8) : acc ++ List.replicate (k + 1) c = acc ++ List.replicate k c ++ [c] := by
  rw [List.replicate_succ', List.append_assoc]

end Go.Proofs.YtdhphipdpjhhbaaGreatDoor
