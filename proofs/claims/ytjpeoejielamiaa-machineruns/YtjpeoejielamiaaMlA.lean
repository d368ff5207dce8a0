/-
  What is handed in, opened; what a law keeps.
-/
import Derived.Test.YtjpeoejielamiaaRows
import Derived.Test.YtjpeoejielamiaaMeK
import Derived.Test.YtjpeoejielamiaaOpn
import Derived.Test.YtjpeoejielamiaaVdK
namespace Go.Proofs.Ytjpeoejielamiaa
open Go.RowKit Go.Deep

theorem ints_in {H : Type} {enc : TypeId × Value → H} {W : World} {v : Value} {d : DataW H} {p : List MemPlace} (h : DataW.Trod enc Try.prog W 0 (fun _ => true) true 22 v d p) :
    ∃ (s : Sl) (l : List Int), v.cells.toList = [.slice s.a s.n s.c] ∧ IntsAt W s.a s.n l ∧ SlIn s := by
  obtain ⟨fuel, hf⟩ := h
  exact open_ints hf
set_option maxRecDepth 20000 in
theorem case_in {H : Type} {enc : TypeId × Value → H} {W : World} {cs : Array Value} {d : DataW H} {p : List MemPlace} (hcs : cs.size = Try.prog.cellsOf 62) (h : DataW.Trod enc Try.prog W 0 (fun _ => true) true 62 (.agg cs) d p) :
    ∃ c s sx x sy y n, cs = cdCells c s ++ #[.slice sx.a sx.n sx.c, .slice sy.a sy.n sy.c, .int .i64 n] ∧ CdIn W c s ∧ (IntsAt W sx.a sx.n x ∧ SlIn sx) ∧ (IntsAt W sy.a sy.n y ∧ SlIn sy) := by
  obtain ⟨fuel, hf0⟩ := h
  have c3 : Try.prog.cellsOf 3 = 1 := by kernel_rfl
  have c22 : Try.prog.cellsOf 22 = 1 := by kernel_rfl
  have c26 : Try.prog.cellsOf 26 = 10 := by kernel_rfl
  have hlen : cs.toList.length = 13 := by rw [Array.length_toList, hcs]; kernel_rfl
  have hf1 : DataW.trod enc Try.prog W 0 (fun _ => true) true fuel 62 cs.toList = some (d, p) := hf0
  have key : ∀ l : List Value, l.length = 13 → DataW.trod enc Try.prog W 0 (fun _ => true) true fuel 62 l = some (d, p) → ∃ c s sx x sy y n, l = (cdCells c s).toList ++ [.slice sx.a sx.n sx.c, .slice sy.a sy.n sy.c, .int .i64 n] ∧ CdIn W c s ∧ (IntsAt W sx.a sx.n x ∧ SlIn sx) ∧ (IntsAt W sy.a sy.n y ∧ SlIn sy) := by
    intro l hl h
    obtain ⟨xs, k, hk, hxy, _, hxl, hf⟩ := DataW.trod_struct Try.underlying62 h
    match l, hl with
    | [v0, v1, v2, v3, v4, v5, v6, v7, v8, v9, v10, v11, v12], _ =>
      have g0 := hf 0 _ rfl
      have g1 := hf 1 _ rfl
      have g2 := hf 2 _ rfl
      have g3 := hf 3 _ rfl
      match xs, hxl with
      | [y0, y1, y2, y3], _ =>
        simp [c3, c22, c26] at g0 g1 g2 g3
        obtain ⟨c, s, e0, i0⟩ := cd_in (cs := #[v0, v1, v2, v3, v4, v5, v6, v7, v8, v9]) (by rw [c26]; rfl) ⟨_, g0⟩
        obtain ⟨sx, x, e1, i1, j1⟩ := open_ints g1
        obtain ⟨sy, y, e2, i2, j2⟩ := open_ints g2
        obtain ⟨n, e3, _, z3⟩ := DataW.trod_int Try.underlying3 g3
        simp at e1 e2 e3
        subst e1 e2 e3
        refine ⟨c, s, sx, x, sy, y, n, ?_, i0, ⟨i1, j1⟩, ⟨i2, j2⟩⟩
        rw [← e0]; rfl
  obtain ⟨c, s, sx, x, sy, y, n, e, hin⟩ := key _ hlen hf1
  exact ⟨c, s, sx, x, sy, y, n, Array.toList_inj.1 (by rw [e]; simp), hin⟩
/-- The code's box, and the table. -/
structure Tw (w wr : World) (c : Cd) (s : Ls) (g gs P X Y : Nat) (sa : Sl) (f : Nat → Ct) (e : En) (st : Int) : Prop where
  bo : Bo w wr (cdCells c s)
  tb : Tb wr g gs P X Y sa f e st
theorem Tw.next {w wr w2 : World} {c : Cd} {s : Ls} {g gs P X Y : Nat} {sa : Sl} {f : Nat → Ct} {e : En} {st : Int} (h : Tw w wr c s g gs P X Y sa f e st) (hb : Below wr.heap.size wr w2) : Tw w w2 c s g gs P X Y sa f e st := ⟨h.bo.next hb, h.tb.next hb⟩
end Go.Proofs.Ytjpeoejielamiaa
