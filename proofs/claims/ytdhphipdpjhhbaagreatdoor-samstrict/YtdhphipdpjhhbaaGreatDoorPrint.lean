/-
  The walk of cigar.Print.
-/
import Derived.Test.YtdhphipdpjhhbaaGreatDoorCols
import Derived.Lib.AppendIntMem
import Derived.Lib.ItoaLen
namespace Go.Proofs.YtdhphipdpjhhbaaGreatDoor
open Go.RowKit

/-- The table of powers, which strconv reads, holds what the program lays there. -/
def TabOk (w : World) : Prop := Lib.TabIs Tryz.prog w "internal/strconv.uint64pow10" .u64 Lib.pow10Tab
theorem TabOk.below {w w' : World} (h : TabOk w) (hb : Below w.heap.size w w') : TabOk w' := Lib.tabBelow_of_tabIs h w' hb
theorem textOf_length {c : UInt8} {m : Nat} (h : m ≤ 131072) : (textOf (c, (m : Int))).length ≤ 22 := by
  have h1 := Lib.itoa_length_le (m : Int) (by omega) (by omega)
  rw [Lib.itoa_nonneg] at h1
  simp [textOf]; omega
theorem textOf_eq (c : UInt8) (m : Nat) : textOf (c, (m : Int)) = Lib.decDigits m ++ [c] := by simp [textOf]

set_option maxHeartbeats 4000000 in
theorem print_calls (ao : Option Addr) (len cap : Nat) (l : List Rn) (w : World) (hz : RnsAt w ao len l) (htab : TabOk w) :
    Calls Tryz.prog 57 #[.slice ao len cap] w fun e w' => TextPost (textA l) w e w' := by
  have hlm := hz.short
  unfold maxLen at hlm
  have HZL : Hid (l.length = len) := hz.length
  have HZ : Hid (RnsAt w ao len l) := hz
  have HTab : Hid (TabOk w) := htab
  have HC : Hid (Calls Tryz.prog 83 #[.slice ao len cap] w fun e w' => e = .returned (.bool (rightB l)) ∧ Below w.heap.size w w') := areRight_calls ao len cap l w hz
  clear hz htab
  cases hr : rightB l with
  | false =>
    have HE : Hid (textA l = ([], 40)) := by show _ = _; rw [textA, if_neg (by rw [hr]; decide)]
    rw [hr] at HC
    go_enter Tryz.func57, Tryz.ntmps57
    go_wp2_with (go_at_call 83; refine HC.out.mono ?_; rintro e w' ⟨rfl, hb⟩)
    go_ret2
    exact text_post HE.out rfl hb
  | true =>
    have HE : Hid (textA l = (if l = [] then [42] else textB l, 0)) := by show _ = _; rw [textA, if_pos hr]
    have HEach : Hid (∀ r ∈ l, isOpB r.1 = true ∧ 1 ≤ r.2 ∧ r.2 ≤ 131072) := right_each hr
    have hfew : len ≤ 131074 := by rw [← HZL.out]; exact right_few hr
    rw [hr] at HC
    clear hr
    by_cases hl0 : len = 0
    · have HE2 : Hid (textA l = ([42], 0)) := by show _ = _; rw [HE.out, if_pos (List.eq_nil_of_length_eq_zero (by rw [HZL.out]; exact hl0))]
      have h0 : ((len : Int) == 0) = true := by rw [hl0]; rfl
      clear hl0 HE
      go_enter Tryz.func57, Tryz.ntmps57
      go_wp2_with (go_at_call 83; refine HC.out.mono ?_; rintro e w1 ⟨rfl, hb1⟩)
      go_ret2
      exact text_post HE2.out rfl hb1
    have HE2 : Hid (textA l = (textB l, 0)) := by
      show _ = _
      rw [HE.out, if_neg (fun e => hl0 (by rw [← HZL.out, e]; rfl))]
    have h0 : ((len : Int) == 0) = false := by rw [beq_eq_false_iff_ne]; omega
    clear HE
    go_enter Tryz.func57, Tryz.ntmps57
    go_wp2_with (go_at_call 83; refine HC.out.mono ?_; rintro e w1 ⟨rfl, hb1⟩)
    have HF : Hid (Lib.IsBuilder 105 5 w1.heap.size w1.heap.size (byteVals []) (w1.alloc (.cells #[.pointer none, .slice none 0 0] 105))) := Lib.fresh_isBuilder 105 5 w1
    have HFb : Hid (Below w.heap.size w (w1.alloc (.cells #[.pointer none, .slice none 0 0] 105))) := hb1.alloc hb1.size _
    have hFs : w1.heap.size ≤ (w1.alloc (.cells #[.pointer none, .slice none 0 0] 105)).heap.size := by simp
    have hws := hb1.size
    clear hb1 HC
    generalize w1.alloc (.cells #[.pointer none, .slice none 0 0] 105) = w2 at *
    generalize w1.heap.size = b2 at *
    go_loopw [15] (fun i wq => ∃ j : Nat, j ≤ len ∧ i = .int .i64 j ∧ Lib.IsBuilder 105 5 b2 b2 (byteVals (textB (l.take j))) wq ∧ Below w.heap.size w wq ∧ b2 ≤ wq.heap.size ∧ (textB (l.take j)).length ≤ j * 22) (fun i _ => len - (intOf i).toNat)
    case atStart => exact ⟨0, Nat.zero_le _, rfl, HF.out, HFb.out, hFs, by simp [textB]⟩
    case round =>
      obtain ⟨j, hj, rfl, hbu, hbel, hsz, hal⟩ := hrel
      have HBu : Hid (Lib.IsBuilder 105 5 b2 b2 (byteVals (textB (l.take j))) wr) := hbu
      have HBe : Hid (Below w.heap.size w wr) := hbel
      have hsw : w.heap.size ≤ wr.heap.size := hbel.size
      clear hbu hbel HF HFb hFs
      by_cases hlt : j < len
      · have hdk : decide ((j : Int) < (len : Int)) = true := by simp; omega
        obtain ⟨b, off, rfl, hcs⟩ := (HZ.out.below HBe.out).cells (by omega)
        obtain ⟨r, hq⟩ : ∃ r, l[j]? = some r := ⟨_, List.getElem?_eq_getElem (by rw [HZL.out]; exact hlt)⟩
        obtain ⟨hc1, hc2⟩ := hcs j r hq
        obtain ⟨ho, h1, h2⟩ := HEach.out r (List.mem_of_getElem? hq)
        have HNx := textB_next hq
        obtain ⟨c, z⟩ := r
        simp only at hc1 hc2 ho h1 h2
        obtain ⟨m, rfl⟩ : ∃ m : Nat, z = (m : Int) := ⟨z.toNat, by omega⟩
        have hto := textOf_length (c := c) (m := m) (by omega)
        generalize hac : textB (l.take j) = acc at *
        have HNx2 : Hid (textB (l.take (j + 1)) = acc ++ textOf (c, (m : Int))) := HNx
        have HL : Hid ((textB (l.take (j + 1))).length ≤ (j + 1) * 22) := by show _ ≤ _; rw [HNx2.out, List.length_append]; omega
        have hdl : (Lib.decDigits m).length ≤ 22 := by rw [textOf_eq] at hto; simp at hto; omega
        have hu := UInt8.toNat_lt c
        have hbx : wr.heap.size < (wr.alloc (.cells #[.int .u8 (c.toNat : Int), .int .i64 (m : Int)] 37)).heap.size := by simp
        have HX : Hid (Lib.IsBuilder 105 5 b2 b2 (byteVals acc) (wr.alloc (.cells #[.int .u8 (c.toNat : Int), .int .i64 (m : Int)] 37)) ∧ Below w.heap.size w (wr.alloc (.cells #[.int .u8 (c.toNat : Int), .int .i64 (m : Int)] 37)) ∧ b2 ≤ (wr.alloc (.cells #[.int .u8 (c.toNat : Int), .int .i64 (m : Int)] 37)).heap.size ∧ (wr.alloc (.cells #[.int .u8 (c.toNat : Int), .int .i64 (m : Int)] 37)).heap[wr.heap.size]? = some (.cells #[.int .u8 (c.toNat : Int), .int .i64 (m : Int)] 37 (0, 0))) :=
          ⟨builder_below HBu.out ((Below.refl _ _).alloc (Nat.le_refl _) _), HBe.out.alloc hsw _, by simp; omega, heap_alloc_new wr _⟩
        have HIt : Hid (Calls Tryz.prog 56 #[.int .i64 (m : Int)] (wr.alloc (.cells #[.int .u8 (c.toNat : Int), .int .i64 (m : Int)] 37)) fun e w' => e = .returned (.string ⟨(Lib.decDigits m).toArray⟩) ∧ Below (wr.alloc (.cells #[.int .u8 (c.toNat : Int), .int .i64 (m : Int)] 37)).heap.size (wr.alloc (.cells #[.int .u8 (c.toNat : Int), .int .i64 (m : Int)] 37)) w') := by
          refine (Tryz.strconv_Itoa (m : Int) (by omega) (by omega) _ (HTab.out.below HX.out.2.1)).mono ?_
          rintro e w' ⟨rfl, k, os, rfl⟩
          exact ⟨by rw [Lib.itoa_nonneg], Lib.below_grow _ _ (Nat.le_refl _) _ _⟩
        clear hcs hq HNx hac HBu HBe ho hto
        go_wp2_with fail
        refine HIt.out.mono ?_
        rintro e w3 ⟨rfl, hb3⟩
        clear HIt
        have HB3 : Hid (Lib.IsBuilder 105 5 b2 b2 (byteVals acc) w3 ∧ Below w.heap.size w w3 ∧ b2 ≤ w3.heap.size ∧ w3.heap[wr.heap.size]? = some (.cells #[.int .u8 (c.toNat : Int), .int .i64 (m : Int)] 37 (0, 0))) :=
          ⟨builder_below HX.out.1 hb3, HX.out.2.1.trans (hb3.mono HX.out.2.1.size), Nat.le_trans HX.out.2.2.1 hb3.size, by rw [hb3.block _ hbx]; exact HX.out.2.2.2⟩
        clear hb3 HX hbx
        go_wp2_with fail
        refine (writeString_calls b2 b2 (byteVals acc) ⟨(Lib.decDigits m).toArray⟩ w3 HB3.out.1 (by rw [byteVals_length, mk_size]; omega) HB3.out.2.2.1).mono ?_
        rintro e w4 ⟨rfl, hbu4, hb4, hk4⟩
        have hbox := hk4 _ _ _ _ ⟨by decide, by decide⟩ HB3.out.2.2.2
        have hcb : w4.cell? ⟨wr.heap.size, 0, none⟩ = some (.int .u8 (c.toNat : Int)) := by rw [Lib.cell_of_heap hbox]; rfl
        have HB4 : Hid (Lib.IsBuilder 105 5 b2 b2 (byteVals (acc ++ Lib.decDigits m)) w4 ∧ Below w.heap.size w w4 ∧ b2 ≤ w4.heap.size) := by
          refine ⟨?_, HB3.out.2.1.trans (hb4.mono hws), Nat.le_trans HB3.out.2.2.1 hb4.size⟩
          rw [byteVals_append]
          rw [byteVals_str, mk_list] at hbu4
          exact hbu4
        clear hbu4 hb4 HB3 hk4 hbox
        go_wp2_with fail
        refine (writeByte_calls b2 b2 (byteVals (acc ++ Lib.decDigits m)) (c.toNat : Int) w4 HB4.out.1 (by rw [byteVals_length, List.length_append]; omega) HB4.out.2.2).mono ?_
        rintro e w5 ⟨rfl, hbu5, hb5, _⟩
        have HB5 : Hid (Lib.IsBuilder 105 5 b2 b2 (byteVals (textB (l.take (j + 1)))) w5 ∧ Below w.heap.size w w5 ∧ b2 ≤ w5.heap.size) := by
          refine ⟨?_, HB4.out.2.1.trans (hb5.mono hws), Nat.le_trans HB4.out.2.2 hb5.size⟩
          rw [HNx2.out, textOf_eq, ← List.append_assoc, byteVals_append]
          exact hbu5
        clear hbu5 hb5 HB4 hcb
        go_wp2
        go_roundw
        case rel => exact ⟨j + 1, by omega, by go_num, HB5.out.1, HB5.out.2.1, HB5.out.2.2, HL.out⟩
        case measure => simp [intOf]; omega
      · have hdk : decide ((j : Int) < (len : Int)) = false := by simp; omega
        have HT : Hid (l.take j = l) := List.take_of_length_le (by rw [HZL.out]; omega)
        have HS : Hid (Calls Tryz.prog 70 #[.pointer (some ⟨b2, 0, none⟩)] wr fun e w' => e = .returned (.string ⟨(textB (l.take j)).toArray⟩) ∧ Below b2 wr w') := Tryz.Builder_String_any b2 b2 (textB (l.take j)) wr HBu.out hsz
        go_wp2_with (go_at_call 70; refine HS.out.mono ?_; rintro e w3 ⟨rfl, hb3⟩)
        go_ret2
        exact text_post HE2.out (by rw [HT.out]) (HBe.out.trans (hb3.mono hws))
end Go.Proofs.YtdhphipdpjhhbaaGreatDoor
