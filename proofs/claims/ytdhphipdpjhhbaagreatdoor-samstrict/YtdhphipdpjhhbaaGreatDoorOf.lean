/-
  Runes of a text; what a function that tells runs leaves.
-/
import Derived.Test.YtdhphipdpjhhbaaGreatDoorLeaf
namespace Go.Proofs.YtdhphipdpjhhbaaGreatDoor
open Go.RowKit

/-- A rune of a text, as a loop over it meets it: the byte itself if it is below 128. -/
theorem next_rune (wr : World) (k : Nat) (s : ByteArray) (pos : Nat) (hit : wr.heap[k]? = some (.stringIter s pos)) (hp : pos < s.size) :
    ∃ (x : Int) (d : Nat), (∀ ty, (Instr.next (.pointer (some ⟨k, 0, none⟩)) true ty).run Tryz.prog wr = .ok (.tuple #[.bool true, .int .i64 pos, .int .i32 x]) (wr.iterAt k s (pos + d))) ∧ 1 ≤ d ∧
      ((x = (s[pos].toNat : Int) ∧ d = 1) ∨ (128 ≤ x ∧ 128 ≤ s[pos].toNat)) := by
  by_cases ha : s[pos].toNat < 128
  · exact ⟨_, 1, fun ty => Lib.run_next_ascii_at wr k s pos ty hit hp ha, Nat.le_refl _, .inl ⟨rfl, rfl⟩⟩
  · obtain ⟨h1, h2⟩ := decode_high s pos hp (by omega)
    exact ⟨_, _, fun ty => Lib.run_next_any_at wr k s pos ty hit hp, h2, .inr ⟨by omega, by omega⟩⟩
theorem colI_high {x : Int} (h : 128 ≤ x) : isColI x = false := by
  unfold isColI; simp; omega
theorem opI_high {x : Int} (h : 128 ≤ x) : isOpI x = false := by
  unfold isOpI; rw [colI_high h]; simp; omega
theorem colB_high {c : UInt8} (h : 128 ≤ c.toNat) : isColB c = false := by rw [← isColI_byte, colI_high (by omega)]
theorem opB_high {c : UInt8} (h : 128 ≤ c.toNat) : isOpB c = false := by rw [← isOpI_byte, opI_high (by omega)]
theorem owned_base {w : World} {b b' : Nat} {e : TypeId} {size : Nat} {v : Value} {n : Nat} {xs : List Value} (h : w.ownsRow b e size v n xs) (hb : b' ≤ b) : w.ownsRow b' e size v n xs := by
  refine ⟨h.1, ?_⟩
  rcases h.2 with hn | ⟨g, cap, cur, hv, h1, rest⟩
  · exact .inl hn
  · exact .inr ⟨g, cap, cur, hv, by omega, rest⟩
theorem owned_none_nil (w : World) (B : Nat) : w.ownsRow B 37 2 (.slice none 0 0) ([] : List Rn).length (rowCells []) := World.ownsRow_nil _ _ _ _

/-- What a function that tells runs and an error leaves. -/
def RunsPost (a : List Rn × Int) (w : World) (e : Ending) (w' : World) : Prop :=
  ∃ v, e = .returned (.tuple #[v, .int .i64 a.2]) ∧ w'.ownsRow w.heap.size 37 2 v a.1.length (rowCells a.1) ∧ Below w.heap.size w w'
theorem runs_none {a : List Rn × Int} {w w' : World} {z : Int} (h : a = ([], z)) (hb : Below w.heap.size w w') : RunsPost a w (.returned (.tuple #[.slice none 0 0, .int .i64 z])) w' := by
  subst h
  exact ⟨_, rfl, owned_none_nil _ _, hb⟩

end Go.Proofs.YtdhphipdpjhhbaaGreatDoor
