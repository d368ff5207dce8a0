/-
  The walks of cigar.Columns and cigar.Print.
-/
import Derived.Test.YtdhphipdpjhhbaaGreatDoorBuild
import Derived.Test.YtdhphipdpjhhbaaGreatDoorSpans
namespace Go.Proofs.YtdhphipdpjhhbaaGreatDoor
open Go.RowKit

/-- What a function that tells a text and an error leaves. -/
def TextPost (a : List UInt8 × Int) (w : World) (e : Ending) (w' : World) : Prop :=
  ∃ t : ByteArray, e = .returned (.tuple #[.string t, .int .i64 a.2]) ∧ t.data.toList = a.1 ∧ Below w.heap.size w w'
theorem text_post {a : List UInt8 × Int} {l : List UInt8} {z : Int} {t : ByteArray} {w w' : World} (h : a = (l, z)) (ht : t.data.toList = l) (hb : Below w.heap.size w w') : TextPost a w (.returned (.tuple #[.string t, .int .i64 z])) w' := by
  subst h
  exact ⟨t, rfl, ht, hb⟩
theorem builder_below {B b : Nat} {bs : List Value} {w w' : World} (h : Lib.IsBuilder 105 5 B b bs w) (hb : Below w.heap.size w w') : Lib.IsBuilder 105 5 B b bs w' := by
  rcases h with ⟨h1, v, h2, h3, h4⟩ | ⟨h1, v, h2, h3, h4⟩
  · exact .inl ⟨h1, v, by rw [hb.block b (lt_block h2)]; exact h2, owned_below h3 hb, h4⟩
  · exact .inr ⟨h1, v, by rw [hb.block b (lt_block h2)]; exact h2, owned_below h3 hb, h4⟩
theorem byteVals_str (s : ByteArray) : Lib.strCells s = byteVals s.data.toList := rfl
theorem byteVals_cells (l : List UInt8) : Lib.byteCells l = byteVals l := rfl
def colOf (r : Rn) : List UInt8 := if r.1 = 83 then [] else List.replicate r.2.toNat r.1
def textOf (r : Rn) : List UInt8 := Lib.decDigits r.2.toNat ++ [r.1]
theorem colsB_next {l : List Rn} {k : Nat} {r : Rn} (h : l[k]? = some r) : colsB (l.take (k + 1)) = colsB (l.take k) ++ colOf r := by
  rw [take_next h]; simp [colsB, colOf]
theorem textB_next {l : List Rn} {k : Nat} {r : Rn} (h : l[k]? = some r) : textB (l.take (k + 1)) = textB (l.take k) ++ textOf r := by
  rw [take_next h]; simp [textB, textOf]
theorem colOf_length {r : Rn} (h : 1 ≤ r.2 ∧ r.2 ≤ 131072) : (colOf r).length ≤ 131072 := by
  unfold colOf; split
  · simp
  · simp; omega
theorem encode_byte {c : UInt8} (h : c.toNat < 128) : Utf8.encode (c.toNat : Int) = ⟨#[c]⟩ := by
  have hv : Utf8.valid (c.toNat : Int) = true := by unfold Utf8.valid; simp; omega
  unfold Utf8.encode
  simp only [hv, if_true, Int.toNat_natCast, h]
  simp
theorem wrap_byte (c : UInt8) : IntKind.i32.wrap (c.toNat : Int) = (c.toNat : Int) := by
  have := UInt8.toNat_lt c
  rw [IntKind.wrap_i32]; omega
theorem op_low {c : UInt8} (h : isOpB c = true) : c.toNat < 128 := by
  simp [isOpB, isColB] at h
  rcases h with (h | h | h) | h <;> (rw [h]; decide)
end Go.Proofs.YtdhphipdpjhhbaaGreatDoor
