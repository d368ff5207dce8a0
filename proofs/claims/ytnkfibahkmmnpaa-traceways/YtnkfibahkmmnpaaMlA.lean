/-
  What is handed in, opened; what a law keeps.
-/
import Derived.Test.YtnkfibahkmmnpaaRows
import Derived.Test.YtnkfibahkmmnpaaMeI
import Derived.Test.YtnkfibahkmmnpaaOpn
import Derived.Test.YtnkfibahkmmnpaaVdK
namespace Go.Proofs.Ytnkfibahkmmnpaa
open Go.RowKit Go.Deep

theorem ints_in {H : Type} {enc : TypeId × Value → H} {W : World} {v : Value} {d : DataW H} {p : List MemPlace} (h : DataW.Trod enc Try.prog W 0 (fun _ => true) true 28 v d p) :
    ∃ (s : Sl) (l : List Int), v.cells.toList = [.slice s.a s.n s.c] ∧ IntsAt W s.a s.n l ∧ SlIn s := by
  obtain ⟨fuel, hf⟩ := h
  exact open_ints hf
/-- The code's box, and the table. -/
structure Tw (w wr : World) (c : Cd) (s : Ls) (g gs P X Y : Nat) (sa : Sl) (f : Nat → Ct) (e : En) (st : Int) : Prop where
  bo : Bo w wr (cdCells c s)
  tb : Tb wr g gs P X Y sa f e st
theorem Tw.next {w wr w2 : World} {c : Cd} {s : Ls} {g gs P X Y : Nat} {sa : Sl} {f : Nat → Ct} {e : En} {st : Int} (h : Tw w wr c s g gs P X Y sa f e st) (hb : Below wr.heap.size wr w2) : Tw w w2 c s g gs P X Y sa f e st := ⟨h.bo.next hb, h.tb.next hb⟩
end Go.Proofs.Ytnkfibahkmmnpaa
