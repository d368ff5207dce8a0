/-
  The walk of the document's own Print.
-/
import Derived.Test.YtdhphipdpjhhbaaGreatDoorRefCols
import Derived.Test.YtdhphipdpjhhbaaGreatDoorDigits
namespace Go.Proofs.YtdhphipdpjhhbaaGreatDoor
open Go.RowKit

theorem BufAt.text {B : Nat} {acc : List UInt8} {v v' : Value} {w wr w3 : World} {s : ByteArray} (h : BufAt B acc v w wr) (hB : B ≤ wr.heap.size) (ho : w3.ownsRow B 5 1 v' (acc.length + s.size) (byteVals acc ++ Lib.strCells s)) (hg : wr.grownBy w3 v.ownBlock) : BufAt B (acc ++ s.data.toList) v' w w3 := by
  refine ⟨?_, h.2.grown hg hB (fun k hk => (h.1.lt k hk).1)⟩
  rw [byteVals_append, List.length_append, size_toList]
  exact ho

set_option maxRecDepth 20000 in
set_option maxHeartbeats 4000000 in
theorem refPrint_calls (ao : Option Addr) (len cap : Nat) (l : List Rn) (w : World) (hz : RnsAt w ao len l) :
    Calls Tryz.prog 30 #[.slice ao len cap] w fun e w' => TextPost (textA l) w e w' := by
  have hlm := hz.short
  unfold maxLen at hlm
  have HZL : Hid (l.length = len) := hz.length
  have HZ : Hid (RnsAt w ao len l) := hz
  have HC : Hid (Calls Tryz.prog 58 #[.slice ao len cap] w fun e w' => e = .returned (.bool (rightB l)) ∧ Below w.heap.size w w') := refRight_calls ao len cap l w hz
  clear hz
  cases hr : rightB l with
  | false =>
    have HE : Hid (textA l = ([], 40)) := by show _ = _; rw [textA, if_neg (by rw [hr]; decide)]
    rw [hr] at HC
    go_enter Tryz.func30, Tryz.ntmps30
    go_wp2_with (go_at_call 58; refine HC.out.mono ?_; rintro e w' ⟨rfl, hb⟩)
    go_ret2
    exact text_post HE.out rfl hb
  | true =>
    have HE : Hid (textA l = (if l = [] then [42] else textB l, 0)) := by show _ = _; rw [textA, if_pos hr]
    have HEach : Hid (∀ r ∈ l, isOpB r.1 = true ∧ 1 ≤ r.2 ∧ r.2 ≤ 131072) := right_each hr
    have hfew : len ≤ 131074 := by rw [← HZL.out]; exact right_few hr
    rw [hr] at HC
    clear hr
    by_cases hl0 : len = 0
    · have HE2 : Hid (textA l = ([42], 0)) := by show _ = _; rw [HE.out, if_pos (List.eq_nil_of_length_eq_zero (by rw [HZL.out]; exact hl0))]
      have h0 : ((len : Int) == 0) = true := by rw [hl0]; rfl
      clear hl0 HE
      go_enter Tryz.func30, Tryz.ntmps30
      go_wp2_with (go_at_call 58; refine HC.out.mono ?_; rintro e w1 ⟨rfl, hb1⟩)
      go_ret2
      exact text_post HE2.out rfl hb1
    have HE2 : Hid (textA l = (textB l, 0)) := by
      show _ = _
      rw [HE.out, if_neg (fun e => hl0 (by rw [← HZL.out, e]; rfl))]
    have h0 : ((len : Int) == 0) = false := by rw [beq_eq_false_iff_ne]; omega
    obtain ⟨i0, hi, hz0, hz1, hz2⟩ := info_parts info5
    clear HE
    go_enter Tryz.func30, Tryz.ntmps30
    go_wp2_with (go_at_call 58; refine HC.out.mono ?_; rintro e w1 ⟨rfl, hb1⟩)
    have HB1 : Hid (Below w.heap.size w w1) := hb1
    clear hb1 HC
    go_loopw [5, 6] (fun v i wq => ∃ j : Nat, j ≤ len ∧ i = .int .i64 j ∧ BufAt w.heap.size (textB (l.take j)) v w wq ∧ (textB (l.take j)).length ≤ j * 22) (fun _ i _ => len - (intOf i).toNat)
    case atStart => exact ⟨0, Nat.zero_le _, rfl, ⟨World.ownsRow_nil _ _ _ _, HB1.out⟩, by simp [textB]⟩
    case round =>
      obtain ⟨j, hj, rfl, hbu, hal⟩ := hrel
      obtain ⟨av, cav, rfl⟩ := owned_shape hbu.1
      have hsw : w.heap.size ≤ wr.heap.size := hbu.2.size
      by_cases hlt : j < len
      · have hdk : decide ((j : Int) < (len : Int)) = true := by simp; omega
        obtain ⟨r, hq⟩ : ∃ r, l[j]? = some r := ⟨_, List.getElem?_eq_getElem (by rw [HZL.out]; exact hlt)⟩
        obtain ⟨b, off, rfl, _⟩ := HZ.out.cells (by omega)
        have HCs : Hid (∀ W, Below w.heap.size w W → W.cell? ⟨b, off + j * 2, none⟩ = some (.int .u8 (r.1.toNat : Int)) ∧ W.cell? ⟨b, off + j * 2 + 1, none⟩ = some (.int .i64 r.2)) := fun W hW => by
          obtain ⟨b', off', e, hcs⟩ := (HZ.out.below hW).cells (by omega)
          cases e
          exact hcs j r hq
        obtain ⟨ho, h1, h2⟩ := HEach.out r (List.mem_of_getElem? hq)
        have HNx := textB_next hq
        obtain ⟨c, z⟩ := r
        simp only at HCs ho h1 h2
        obtain ⟨m, rfl⟩ : ∃ m : Nat, z = (m : Int) := ⟨z.toNat, by omega⟩
        have hto := textOf_length (c := c) (m := m) (by omega)
        obtain ⟨hc1, hc2⟩ := HCs.out _ hbu.2
        generalize hac : textB (l.take j) = acc at *
        have HNx2 : Hid (textB (l.take (j + 1)) = acc ++ textOf (c, (m : Int))) := HNx
        have HBu : Hid (BufAt w.heap.size acc (.slice av acc.length cav) w wr) := hbu
        have HL : Hid ((textB (l.take (j + 1))).length ≤ (j + 1) * 22) := by show _ ≤ _; rw [HNx2.out, List.length_append]; omega
        have hu := UInt8.toNat_lt c
        have hdl : (Lib.decDigits m).length ≤ 22 := by rw [textOf_eq] at hto; simp at hto; omega
        have HD : Hid (∀ w, Calls Tryz.prog 59 #[.int .i64 (m : Int)] w fun e w' => ∃ t : ByteArray, e = .returned (.string t) ∧ t.data.toList = Lib.decDigits m ∧ w' = w) := fun w => digits_calls m w (by omega)
        clear hq HNx hac hbu ho hto
        go_wp2_with fail
        refine (HD.out _).mono ?_
        rintro e w2 ⟨t, rfl, htd, hw2⟩
        rw [hw2]
        clear hw2
        have hts : t.size ≤ 22 := by rw [← size_toList, htd]; exact hdl
        have HTD : Hid (t.data.toList = Lib.decDigits m) := htd
        clear htd HD hdl
        go_wp2_with (at_builtin; go_loud (refine Lib.wpList_append_own_string _ rfl _ _ 53 9 rfl w.heap.size 5 i0 Tryz.underlying53 Tryz.underlying9 hi hz0 hz1 hz2 _ _ _ rfl HBu.out.1 t rfl ?c1 ?c2 ?c3 ?_))
        case c1 => unfold maxLen; omega
        case c2 => omega
        case c3 => omega
        intro v' w3 hown' hgrow _
        have hb3 := HBu.out.text hsw hown' hgrow
        obtain ⟨a3, c3, rfl⟩ := owned_shape hown'
        obtain ⟨hd1, hd2⟩ := HCs.out _ hb3.2
        have hs3 := hb3.2.size
        have hl3 : (acc ++ t.data.toList).length = acc.length + t.size := by rw [List.length_append, size_toList]
        rw [← hl3] at hb3
        have HB3 : Hid (BufAt w.heap.size (acc ++ t.data.toList) (.slice a3 (acc.length + t.size) c3) w w3 ∧ w3.ownsRow w.heap.size 5 1 (.slice a3 (acc.length + t.size) c3) (acc.length + t.size) (byteVals (acc ++ t.data.toList))) := by
          refine ⟨by rw [← hl3]; exact hb3, ?_⟩
          have := hb3.1
          rw [hl3] at this
          exact this
        have HL3 : Hid ((acc ++ t.data.toList).length = acc.length + t.size) := hl3
        clear hb3 hown' hgrow hl3 HBu
        go_wp2_with (at_builtin; go_loud (refine wpList_append_own _ rfl _ _ 53 rfl w.heap.size 5 i0 (.int .u8 0) 1 1 Tryz.underlying53 hi hz0 hz1 hz2 rfl (by decide) (.slice a3 (acc.length + t.size) c3) _ _ rfl (HB3.out.2.alloc _) ⟨_, 0, none⟩ 1 1 [.int .u8 (c.toNat : Int)] rfl rfl ?c1 (one_cell c) ?c3 ?c4 ?c5 ?_))
        case c1 =>
          intro i u hu
          match i, hu with
          | 0, hu => simp at hu; subst hu; simp [Addr.add]
        case c3 => unfold maxLen; omega
        case c4 => omega
        case c5 => simp; omega
        intro v4 w4 hown4 hgrow4 _
        have HB4 : Hid (BufAt w.heap.size (textB (l.take (j + 1))) v4 w w4) := by
          show BufAt _ _ _ _ _
          rw [HNx2.out, textOf_eq, ← HTD.out, ← List.append_assoc]
          rw [← HL3.out] at hown4
          exact HB3.out.1.snoc hs3 hown4 hgrow4
        clear hown4 hgrow4
        go_wp2
        go_roundw
        case rel => exact ⟨j + 1, by omega, by go_num, HB4.out, HL.out⟩
        case measure => simp [intOf]; omega
      · have hdk : decide ((j : Int) < (len : Int)) = false := by simp; omega
        have HT : Hid (l.take j = l) := List.take_of_length_le (by rw [HZL.out]; omega)
        have hconv := owned_text hbu.1
        have HBe : Hid (Below w.heap.size w wr) := hbu.2
        clear hbu
        go_wp2
        go_ret2
        exact text_post HE2.out (by rw [HT.out]) HBe.out
end Go.Proofs.YtdhphipdpjhhbaaGreatDoor
