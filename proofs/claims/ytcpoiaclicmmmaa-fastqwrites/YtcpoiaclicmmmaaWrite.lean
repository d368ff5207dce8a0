/-
  The walks of fastq.write and of what it calls.
-/
import Derived.Test.YtcpoiaclicmmmaaBuild
import Derived.Test.YtcpoiaclicmmmaaPrintPlain
import Derived.Test.YtcpoiaclicmmmaaLines
import Derived.Test.YtcpoiaclicmmmaaTake
namespace Go.Proofs.Ytcpoiaclicmmmaa
open Go.RowKit

theorem join_calls (a c : ByteArray) (w : World) (ha : a.size ≤ 1048576) (hc : c.size ≤ 1048576) :
    Calls Try.prog 24 #[.string a, .string c] w fun e w' => ∃ t, e = .returned (.string t) ∧ t.data.toList = joinB a.data.toList c.data.toList ∧ w' = w := by
  by_cases h0 : c.toList = []
  · have HE : Hid (joinB a.data.toList c.data.toList = a.data.toList) := by
      show joinB _ _ = _
      unfold joinB; rw [if_pos (toList_nil.1 h0)]
    go_enter Try.func24, Try.ntmps24
    go_wp2
    go_ret
    exact ⟨a, rfl, HE.out.symm, rfl⟩
  · have e1 : c.toList.isEmpty = false := by
      cases hr : c.toList with
      | nil => exact absurd hr h0
      | cons _ _ => rfl
    have hsp : (⟨#[32]⟩ : ByteArray).size = 1 := rfl
    have hcat1 : ∀ W, (Op.stringOp .add a ⟨#[32]⟩).run Try.prog W = .ok (.string (a ++ ⟨#[32]⟩)) W := fun W => run_string_add_sum W _ _ (by rw [hsp]; omega)
    have hcat2 : ∀ W, (Op.stringOp .add (a ++ ⟨#[32]⟩) c).run Try.prog W = .ok (.string (a ++ ⟨#[32]⟩ ++ c)) W := fun W => run_string_add_sum W _ _ (by rw [ByteArray.size_append, hsp]; omega)
    have HE : Hid (joinB a.data.toList c.data.toList = a.data.toList ++ 32 :: c.data.toList) := by
      show joinB _ _ = _
      unfold joinB; rw [if_neg (fun e => h0 (toList_nil.2 e))]
    clear h0
    go_enter Try.func24, Try.ntmps24
    go_wp2
    go_ret
    refine ⟨a ++ ⟨#[32]⟩ ++ c, rfl, ?_, rfl⟩
    rw [HE.out, ba_append, ba_append]; simp

theorem byteVals_str (s : ByteArray) : Lib.strCells s = byteVals s.data.toList := rfl
theorem builder_below {B b : Nat} {bs : List Value} {w w' : World} (h : Lib.IsBuilder 54 5 B b bs w) (hb : Below w.heap.size w w') : Lib.IsBuilder 54 5 B b bs w' := by
  rcases h with ⟨h1, v, h2, h3, h4⟩ | ⟨h1, v, h2, h3, h4⟩
  · exact .inl ⟨h1, v, by rw [hb.block b (lt_block h2)]; exact h2, owned_below h3 hb, h4⟩
  · exact .inr ⟨h1, v, by rw [hb.block b (lt_block h2)]; exact h2, owned_below h3 hb, h4⟩

/-- Lines, each with its line feed. -/
def linesOut (ss : List ByteArray) : List UInt8 := (ss.map fun s => s.data.toList ++ [10]).flatten
theorem linesOut_next {ss : List ByteArray} {k : Nat} {s : ByteArray} (h : ss[k]? = some s) : linesOut (ss.take (k + 1)) = linesOut (ss.take k) ++ s.data.toList ++ [10] := by
  obtain ⟨hlt, he⟩ := List.getElem?_eq_some_iff.1 h
  rw [List.take_succ_eq_append_getElem hlt, he]
  simp [linesOut]

set_option maxHeartbeats 4000000 in
theorem write_calls (B b : Nat) (acc : List UInt8) (g n : Nat) (ss : List ByteArray) (w : World) (h : Lib.IsBuilder 54 5 B b (byteVals acc) w) (hB : B ≤ w.heap.size) (hl : ss.length = n) (hn : n ≤ 4) (hacc : acc.length ≤ 100000000)
    (hs : ∀ s ∈ ss, s.size ≤ 1048576) (hg : w.heap[g]? = some (.cells (strVals ss).toArray 9 (0, 0))) :
    Calls Try.prog 23 #[.pointer (some ⟨b, 0, none⟩), .slice (some ⟨g, 0, none⟩) n n] w fun e w' => e = .returned (.tuple #[]) ∧ Lib.IsBuilder 54 5 B b (byteVals (acc ++ linesOut ss)) w' ∧ Below B w w' ∧ Keep w w' := by
  have HBu : Hid (Lib.IsBuilder 54 5 B b (byteVals acc) w) := h
  have HG : Hid (w.heap[g]? = some (.cells (strVals ss).toArray 9 (0, 0))) := hg
  have HS : Hid (∀ s ∈ ss, s.size ≤ 1048576) := hs
  have HL : Hid (ss.length = n) := hl
  clear h hg hs hl
  go_enter Try.func23, Try.ntmps23
  go_wp2_with fail
  go_loopw [8] (fun i wr => ∃ k : Nat, i = .int .i64 k ∧ k ≤ n ∧ Lib.IsBuilder 54 5 B b (byteVals (acc ++ linesOut (ss.take k))) wr ∧ Below B w wr ∧ Keep w wr ∧ B ≤ wr.heap.size ∧ (acc ++ linesOut (ss.take k)).length ≤ 100000000 + k * 1048577) (fun i _ => n - (intOf i).toNat)
  case atStart => exact ⟨0, rfl, Nat.zero_le _, by simpa [linesOut] using HBu.out, Below.refl _ _, Keep.refl _, hB, by simpa [linesOut] using hacc⟩
  case round =>
    obtain ⟨k, rfl, hk, hbu, hbel, hkp, hsz, hal⟩ := hrel
    have HBe : Hid (Below B w wr ∧ Keep w wr) := ⟨hbel, hkp⟩
    by_cases hlt : k < n
    · obtain ⟨s, hx⟩ : ∃ s, ss[k]? = some s := ⟨_, List.getElem?_eq_getElem (by rw [HL.out]; exact hlt)⟩
      have hcell : wr.cell? ⟨g, k, none⟩ = some (.string s) := by
        rw [Lib.cell_of_heap (hkp _ _ _ _ (.inr rfl) HG.out)]; simp [strVals, hx]
      have hss := HS.out s (List.mem_of_getElem? hx)
      have HNx : Hid (linesOut (ss.take (k + 1)) = linesOut (ss.take k) ++ s.data.toList ++ [10]) := linesOut_next hx
      generalize hac : acc ++ linesOut (ss.take k) = out at *
      have HAc : Hid (acc ++ linesOut (ss.take k) = out) := hac
      have HBk : Hid (Lib.IsBuilder 54 5 B b (byteVals out) wr) := hbu
      have hd : decide ((k : Int) < (n : Int)) = true := by simp; omega
      clear hbu hbel hkp hac hx HBu HG
      go_wp2_with fail
      refine (writeString_calls B b (byteVals out) s wr HBk.out (by rw [byteVals_length]; omega) hsz).mono ?_
      rintro e w3 ⟨rfl, hbu3, hb3, hk3⟩
      have HB3 : Hid (Lib.IsBuilder 54 5 B b (byteVals (out ++ s.data.toList)) w3) := by
        have := hbu3; rw [byteVals_str, ← byteVals_append] at this; exact this
      have HBe3 : Hid (Below B w w3 ∧ Keep w w3) := ⟨HBe.out.1.trans hb3, HBe.out.2.trans hk3⟩
      have hsz3 : B ≤ w3.heap.size := Nat.le_trans hsz hb3.size
      clear hbu3 hb3 hk3 HBk HBe hcell hsz
      go_wp2_with fail
      refine (writeByte_calls B b _ 10 w3 HB3.out (by rw [byteVals_length]; simp; omega) hsz3).mono ?_
      rintro e w4 ⟨rfl, hbu4, hb4, hk4⟩
      have HB4 : Hid (Lib.IsBuilder 54 5 B b (byteVals (acc ++ linesOut (ss.take (k + 1)))) w4) := by
        have := hbu4
        have e : ([.int .u8 10] : List Value) = byteVals [10] := rfl
        rw [e, ← byteVals_append] at this
        show Lib.IsBuilder _ _ _ _ _ _
        rw [HNx.out, ← List.append_assoc, ← List.append_assoc, HAc.out]; exact this
      have HBe4 : Hid (Below B w w4 ∧ Keep w w4) := ⟨HBe3.out.1.trans hb4, HBe3.out.2.trans hk4⟩
      have HS4 : Hid (B ≤ w4.heap.size) := Nat.le_trans hsz3 hb4.size
      have HLn : Hid ((acc ++ linesOut (ss.take (k + 1))).length ≤ 100000000 + (k + 1) * 1048577) := by
        show _ ≤ _
        rw [HNx.out, ← List.append_assoc, ← List.append_assoc, HAc.out]; simp; omega
      clear hbu4 hb4 hk4 HB3 HBe3 hsz3 hal
      go_wp2
      go_roundw
      case rel => exact ⟨k + 1, by go_num, by omega, HB4.out, HBe4.out.1, HBe4.out.2, HS4.out, HLn.out⟩
      case measure => simp [intOf]; omega
    · have hd : decide ((k : Int) < (n : Int)) = false := by simp; omega
      have HE : Hid (Lib.IsBuilder 54 5 B b (byteVals (acc ++ linesOut ss)) wr) := by
        have := hbu
        rw [List.take_of_length_le (by rw [HL.out]; omega)] at this; exact this
      clear hbu hal
      go_wp2
      go_end0
      exact ⟨rfl, HE.out, HBe.out⟩
end Go.Proofs.Ytcpoiaclicmmmaa
