/-
  The walks of cigar.Columns and cigar.Print.
-/
import Derived.Test.YtkecpjgpgnfhmaaDoorBuild
import Derived.Test.YtkecpjgpgnfhmaaDoorSpans
namespace Go.Proofs.YtkecpjgpgnfhmaaDoor
open Go.RowKit

/-- What a function that tells a text and an error leaves. -/
def TextPost (a : List UInt8 × Int) (w : World) (e : Ending) (w' : World) : Prop :=
  ∃ t : ByteArray, e = .returned (.tuple #[.string t, .int .i64 a.2]) ∧ t.data.toList = a.1 ∧ Below w.heap.size w w'
theorem text_post {a : List UInt8 × Int} {l : List UInt8} {z : Int} {t : ByteArray} {w w' : World} (h : a = (l, z)) (ht : t.data.toList = l) (hb : Below w.heap.size w w') : TextPost a w (.returned (.tuple #[.string t, .int .i64 z])) w' := by
  subst h
  exact ⟨t, rfl, ht, hb⟩
theorem builder_below {B b : Nat} {bs : List Value} {w w' : World} (h : Lib.IsBuilder 47 5 B b bs w) (hb : Below w.heap.size w w') : Lib.IsBuilder 47 5 B b bs w' := by
  rcases h with ⟨h1, v, h2, h3, h4⟩ | ⟨h1, v, h2, h3, h4⟩
  · exact .inl ⟨h1, v, by rw [hb.block b (lt_block h2)]; exact h2, owned_below h3 hb, h4⟩
  · exact .inr ⟨h1, v, by rw [hb.block b (lt_block h2)]; exact h2, owned_below h3 hb, h4⟩
theorem byteVals_str (s : ByteArray) : Lib.strCells s = byteVals s.data.toList := rfl
theorem byteVals_cells (l : List UInt8) : Lib.byteCells l = byteVals l := rfl
def colOf (r : Rn) : List UInt8 := if r.1 = 83 then [] else List.replicate r.2.toNat r.1
def textOf (r : Rn) : List UInt8 := Lib.decDigits r.2.toNat ++ [r.1]
theorem colsB_next {l : List Rn} {k : Nat} {r : Rn} (h : l[k]? = some r) : colsB (l.take (k + 1)) = colsB (l.take k) ++ colOf r := by
  rw [take_next h]; simp [colsB, colOf]
theorem textB_next {l : List Rn} {k : Nat} {r : Rn} (h : l[k]? = some r) : textB (l.take (k + 1)) = textB (l.take k) ++ textOf r := by
  rw [take_next h]; simp [textB, textOf]
theorem colOf_length {r : Rn} (h : 1 ≤ r.2 ∧ r.2 ≤ 131072) : (colOf r).length ≤ 131072 := by
  unfold colOf; split
  · simp
  · simp; omega
theorem encode_byte {c : UInt8} (h : c.toNat < 128) : Utf8.encode (c.toNat : Int) = ⟨#[c]⟩ := by
  have hv : Utf8.valid (c.toNat : Int) = true := by unfold Utf8.valid; simp; omega
  unfold Utf8.encode
  simp only [hv, if_true, Int.toNat_natCast, h]
  simp
theorem wrap_byte (c : UInt8) : IntKind.i32.wrap (c.toNat : Int) = (c.toNat : Int) := by
  have := UInt8.toNat_lt c
  rw [IntKind.wrap_i32]; omega
theorem op_low {c : UInt8} (h : isOpB c = true) : c.toNat < 128 := by
  simp [isOpB, isColB] at h
  rcases h with (h | h | h) | h <;> (rw [h]; decide)
theorem repeat_one (c : UInt8) (m : Nat) : Lib.repeatL [c] m = List.replicate m c := by
  have := Lib.repeatL_replicate c 1 m
  simpa using this

set_option maxHeartbeats 4000000 in
theorem columns_calls (ao : Option Addr) (len cap : Nat) (l : List Rn) (w : World) (hz : RnsAt w ao len l) :
    Calls Tryd.prog 13 #[.slice ao len cap] w fun e w' => TextPost (colsA l) w e w' := by
  have hlm := hz.short
  unfold maxLen at hlm
  have HZL : Hid (l.length = len) := hz.length
  have HZ : Hid (RnsAt w ao len l) := hz
  have HC : Hid (Calls Tryd.prog 25 #[.slice ao len cap] w fun e w' => e = .returned (.bool (rightB l)) ∧ Below w.heap.size w w') := areRight_calls ao len cap l w hz
  clear hz
  cases hr : rightB l with
  | false =>
    have HE : Hid (colsA l = ([], 40)) := by show _ = _; rw [colsA, if_neg (by rw [hr]; decide)]
    rw [hr] at HC
    go_enter Tryd.func13, Tryd.ntmps13
    go_wp2_with (go_at_call 25; refine HC.out.mono ?_; rintro e w' ⟨rfl, hb⟩)
    go_ret2
    exact text_post HE.out rfl hb
  | true =>
    have HE : Hid (colsA l = (colsB l, 0)) := by show _ = _; rw [colsA, if_pos hr]
    have HEach : Hid (∀ r ∈ l, isOpB r.1 = true ∧ 1 ≤ r.2 ∧ r.2 ≤ 131072) := right_each hr
    have hfew : len ≤ 131074 := by rw [← HZL.out]; exact right_few hr
    rw [hr] at HC
    clear hr
    go_enter Tryd.func13, Tryd.ntmps13
    go_wp2_with (go_at_call 25; refine HC.out.mono ?_; rintro e w1 ⟨rfl, hb1⟩)
    have HF : Hid (Lib.IsBuilder 47 5 w1.heap.size w1.heap.size (byteVals []) (w1.alloc (.cells #[.pointer none, .slice none 0 0] 47))) := Lib.fresh_isBuilder 47 5 w1
    have HFb : Hid (Below w.heap.size w (w1.alloc (.cells #[.pointer none, .slice none 0 0] 47))) := hb1.alloc hb1.size _
    have hFs : w1.heap.size ≤ (w1.alloc (.cells #[.pointer none, .slice none 0 0] 47)).heap.size := by simp
    have hws := hb1.size
    clear hb1 HC
    generalize w1.alloc (.cells #[.pointer none, .slice none 0 0] 47) = w2 at *
    generalize w1.heap.size = b2 at *
    go_loopw [12] (fun i wq => ∃ j : Nat, j ≤ len ∧ i = .int .i64 j ∧ Lib.IsBuilder 47 5 b2 b2 (byteVals (colsB (l.take j))) wq ∧ Below w.heap.size w wq ∧ b2 ≤ wq.heap.size ∧ (colsB (l.take j)).length ≤ j * 131072) (fun i _ => len - (intOf i).toNat)
    case atStart => exact ⟨0, Nat.zero_le _, rfl, HF.out, HFb.out, hFs, by simp [colsB]⟩
    case round =>
      obtain ⟨j, hj, rfl, hbu, hbel, hsz, hal⟩ := hrel
      have HBu : Hid (Lib.IsBuilder 47 5 b2 b2 (byteVals (colsB (l.take j))) wr) := hbu
      have HBe : Hid (Below w.heap.size w wr) := hbel
      have hsw : w.heap.size ≤ wr.heap.size := hbel.size
      clear hbu hbel HF HFb hFs
      by_cases hlt : j < len
      · have hdk : decide ((j : Int) < (len : Int)) = true := by simp; omega
        obtain ⟨b, off, rfl, hcs⟩ := (HZ.out.below HBe.out).cells (by omega)
        obtain ⟨r, hq⟩ : ∃ r, l[j]? = some r := ⟨_, List.getElem?_eq_getElem (by rw [HZL.out]; exact hlt)⟩
        obtain ⟨hc1, hc2⟩ := hcs j r hq
        obtain ⟨ho, h1, h2⟩ := HEach.out r (List.mem_of_getElem? hq)
        have HNx := colsB_next hq
        have hco := colOf_length ⟨h1, h2⟩
        obtain ⟨c, z⟩ := r
        simp only at hc1 hc2 ho h1 h2
        obtain ⟨m, rfl⟩ : ∃ m : Nat, z = (m : Int) := ⟨z.toNat, by omega⟩
        generalize hac : colsB (l.take j) = acc at *
        have HNx2 : Hid (colsB (l.take (j + 1)) = acc ++ colOf (c, (m : Int))) := HNx
        have HBx : Hid (∀ o, Lib.IsBuilder 47 5 b2 b2 (byteVals acc) (wr.alloc o) ∧ Below w.heap.size w (wr.alloc o) ∧ b2 ≤ (wr.alloc o).heap.size) := fun o => ⟨builder_below HBu.out ((Below.refl _ _).alloc (Nat.le_refl _) _), HBe.out.alloc hsw _, by simp; omega⟩
        have HL : Hid ((colsB (l.take (j + 1))).length ≤ (j + 1) * 131072) := by show _ ≤ _; rw [HNx2.out, List.length_append]; omega
        clear hcs hq HNx hac HBu HBe
        by_cases h83 : c = 83
        · have e8 := ne_of_beq (is83 h83)
          have HNx3 : Hid (colsB (l.take (j + 1)) = acc) := by show _ = _; rw [HNx2.out, colOf, if_pos h83, List.append_nil]
          clear h83 HNx2
          go_wp2
          go_roundw
          case rel => exact ⟨j + 1, by omega, by go_num, by rw [HNx3.out]; exact (HBx.out _).1, (HBx.out _).2.1, (HBx.out _).2.2, HL.out⟩
          case measure => simp [intOf]; omega
        · have e8 := ne_of_beq (not83 h83)
          have HNx3 : Hid (colsB (l.take (j + 1)) = acc ++ List.replicate m c) := by show _ = _; rw [HNx2.out, colOf, if_neg h83]; simp
          have hen := encode_byte (op_low ho)
          have hwb := wrap_byte c
          have hu := UInt8.toNat_lt c
          have HRp : Hid (∀ w, Calls Tryd.prog 27 #[.string ⟨#[c]⟩, .int .i64 (m : Int)] w fun e w' => e = .returned (.string ⟨(List.replicate m c).toArray⟩) ∧ Below w.heap.size w w') := fun w => by
            have := Tryd.strings_Repeat ⟨#[c]⟩ m w (by omega) (by show 1 * m ≤ _; omega)
            rw [show (⟨#[c]⟩ : ByteArray).data.toList = [c] from rfl, repeat_one] at this
            exact this
          clear h83 HNx2 ho
          go_wp2_with fail
          refine (HRp.out _).mono ?_
          rintro e w3 ⟨rfl, hb3⟩
          have HB3 : Hid (Lib.IsBuilder 47 5 b2 b2 (byteVals acc) w3 ∧ Below w.heap.size w w3 ∧ b2 ≤ w3.heap.size) := ⟨builder_below (HBx.out _).1 hb3, (HBx.out _).2.1.trans (hb3.mono (HBx.out _).2.1.size), Nat.le_trans (HBx.out _).2.2 hb3.size⟩
          clear hb3 HRp HBx
          go_wp2_with fail
          refine (writeString_calls b2 b2 (byteVals acc) ⟨(List.replicate m c).toArray⟩ w3 HB3.out.1 (by rw [byteVals_length, mk_size, List.length_replicate]; omega) HB3.out.2.2).mono ?_
          rintro e w4 ⟨rfl, hbu4, hb4, _⟩
          have HB4 : Hid (Lib.IsBuilder 47 5 b2 b2 (byteVals (colsB (l.take (j + 1)))) w4 ∧ Below w.heap.size w w4 ∧ b2 ≤ w4.heap.size) := by
            refine ⟨?_, HB3.out.2.1.trans (hb4.mono hws), Nat.le_trans HB3.out.2.2 hb4.size⟩
            rw [HNx3.out, byteVals_append]
            rw [byteVals_str, mk_list] at hbu4
            exact hbu4
          clear hbu4 hb4 HB3
          go_wp2
          go_roundw
          case rel => exact ⟨j + 1, by omega, by go_num, HB4.out.1, HB4.out.2.1, HB4.out.2.2, HL.out⟩
          case measure => simp [intOf]; omega
      · have hdk : decide ((j : Int) < (len : Int)) = false := by simp; omega
        have HT : Hid (l.take j = l) := List.take_of_length_le (by rw [HZL.out]; omega)
        have HS : Hid (Calls Tryd.prog 28 #[.pointer (some ⟨b2, 0, none⟩)] wr fun e w' => e = .returned (.string ⟨(colsB (l.take j)).toArray⟩) ∧ Below b2 wr w') := Tryd.Builder_String_any b2 b2 (colsB (l.take j)) wr HBu.out hsz
        go_wp2_with (go_at_call 28; refine HS.out.mono ?_; rintro e w3 ⟨rfl, hb3⟩)
        go_ret2
        exact text_post HE.out (by rw [HT.out]) (HBe.out.trans (hb3.mono hws))
end Go.Proofs.YtkecpjgpgnfhmaaDoor
