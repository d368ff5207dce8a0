/-
  The walk of the document's own Columns.
-/
import Derived.Test.YtkecpjgpgnfhmaaDoorRefRight
import Derived.Test.YtkecpjgpgnfhmaaDoorCols
namespace Go.Proofs.YtkecpjgpgnfhmaaDoor
open Go.RowKit

theorem owned_text {w : World} {base : Nat} {ao : Option Addr} {n cap : Nat} {t : List UInt8} (h : w.ownsRow base 5 1 (.slice ao n cap) n (byteVals t)) :
    (convert 45 9 (.slice ao n cap)).run Tryd.prog w = .ok (.string ⟨t.toArray⟩) w := by
  have hl : t.length = n := by simpa [byteVals] using h.1
  rcases h.2 with ⟨hv, rfl⟩ | ⟨g, cap', cur, hv, hb, hg, _⟩
  · cases hv
    have ht : t = [] := List.eq_nil_of_length_eq_zero hl
    subst ht
    rw [run_convert_bytes_string w 45 9 5 none 0 0 Tryd.underlying45 Tryd.underlying5 Tryd.underlying9]
    rfl
  · cases hv
    subst hl
    refine run_convert_bytes_back w 45 9 5 ⟨g, 0, none⟩ cap t Tryd.underlying45 Tryd.underlying5 Tryd.underlying9 ?_
    intro j hj
    have hadd : (⟨g, 0, none⟩ : Addr).add j = ⟨g, j, none⟩ := by unfold Addr.add; split <;> simp_all
    rw [hadd]
    exact (owned_cells h j _ (by simp [byteVals, hj])).1
/-- A row of bytes that a call owns, in a world that has grown since. -/
def BufAt (B : Nat) (acc : List UInt8) (v : Value) (w w' : World) : Prop := w'.ownsRow B 5 1 v acc.length (byteVals acc) ∧ Below B w w'
theorem BufAt.snoc {B : Nat} {acc : List UInt8} {v v' : Value} {w wr w3 : World} {c : UInt8} {o : Obj} (h : BufAt B acc v w wr) (hB : B ≤ wr.heap.size) (ho : w3.ownsRow B 5 1 v' (acc.length + 1) (byteVals acc ++ [.int .u8 (c.toNat : Int)])) (hg : (wr.alloc o).grownBy w3 v.ownBlock) : BufAt B (acc ++ [c]) v' w w3 := by
  refine ⟨?_, h.2.trans (below_append h.1 hB hg)⟩
  rw [byteVals_append, List.length_append]
  exact ho
theorem one_cell (c : UInt8) : ∀ u ∈ [Value.int .u8 (c.toNat : Int)], u.oneCell' = true := by
  intro u hu; simp at hu; subst hu; rfl
theorem replicate_snoc (acc : List UInt8) (k : Nat) (c : UInt8) : acc ++ List.replicate (k + 1) c = acc ++ List.replicate k c ++ [c] := by
  rw [List.replicate_succ', List.append_assoc]

set_option maxHeartbeats 4000000 in
theorem refColumns_calls (ao : Option Addr) (len cap : Nat) (l : List Rn) (w : World) (hz : RnsAt w ao len l) :
    Calls Tryd.prog 14 #[.slice ao len cap] w fun e w' => TextPost (colsA l) w e w' := by
  have hlm := hz.short
  unfold maxLen at hlm
  have HZL : Hid (l.length = len) := hz.length
  have HZ : Hid (RnsAt w ao len l) := hz
  have HC : Hid (Calls Tryd.prog 22 #[.slice ao len cap] w fun e w' => e = .returned (.bool (rightB l)) ∧ Below w.heap.size w w') := refRight_calls ao len cap l w hz
  clear hz
  cases hr : rightB l with
  | false =>
    have HE : Hid (colsA l = ([], 40)) := by show _ = _; rw [colsA, if_neg (by rw [hr]; decide)]
    rw [hr] at HC
    go_enter Tryd.func14, Tryd.ntmps14
    go_wp2_with (go_at_call 22; refine HC.out.mono ?_; rintro e w' ⟨rfl, hb⟩)
    go_ret2
    exact text_post HE.out rfl hb
  | true =>
    have HE : Hid (colsA l = (colsB l, 0)) := by show _ = _; rw [colsA, if_pos hr]
    have HEach : Hid (∀ r ∈ l, isOpB r.1 = true ∧ 1 ≤ r.2 ∧ r.2 ≤ 131072) := right_each hr
    have hfew : len ≤ 131074 := by rw [← HZL.out]; exact right_few hr
    obtain ⟨i0, hi, hz0, hz1, hz2⟩ := info_parts info5
    rw [hr] at HC
    clear hr
    go_enter Tryd.func14, Tryd.ntmps14
    go_wp2_with (go_at_call 22; refine HC.out.mono ?_; rintro e w1 ⟨rfl, hb1⟩)
    have HB1 : Hid (Below w.heap.size w w1) := hb1
    clear hb1 HC
    go_loopw [5, 6] (fun v i wq => ∃ j : Nat, j ≤ len ∧ i = .int .i64 j ∧ BufAt w.heap.size (colsB (l.take j)) v w wq ∧ (colsB (l.take j)).length ≤ j * 131072) (fun _ i _ => len - (intOf i).toNat)
    case atStart => exact ⟨0, Nat.zero_le _, rfl, ⟨World.ownsRow_nil _ _ _ _, HB1.out⟩, by simp [colsB]⟩
    case round =>
      obtain ⟨j, hj, rfl, hbu, hal⟩ := hrel
      obtain ⟨av, cav, rfl⟩ := owned_shape hbu.1
      have hsw : w.heap.size ≤ wr.heap.size := hbu.2.size
      by_cases hlt : j < len
      · have hdk : decide ((j : Int) < (len : Int)) = true := by simp; omega
        obtain ⟨r, hq⟩ : ∃ r, l[j]? = some r := ⟨_, List.getElem?_eq_getElem (by rw [HZL.out]; exact hlt)⟩
        obtain ⟨b, off, rfl, _⟩ := HZ.out.cells (by omega)
        have HCs : Hid (∀ W, Below w.heap.size w W → W.cell? ⟨b, off + j * 2, none⟩ = some (.int .u8 (r.1.toNat : Int)) ∧ W.cell? ⟨b, off + j * 2 + 1, none⟩ = some (.int .i64 r.2)) := fun W hW => by
          obtain ⟨b', off', e, hcs⟩ := (HZ.out.below hW).cells (by omega)
          cases e
          exact hcs j r hq
        obtain ⟨ho, h1, h2⟩ := HEach.out r (List.mem_of_getElem? hq)
        have HNx := colsB_next hq
        have hco := colOf_length ⟨h1, h2⟩
        obtain ⟨c, z⟩ := r
        simp only at HCs ho h1 h2
        obtain ⟨m, rfl⟩ : ∃ m : Nat, z = (m : Int) := ⟨z.toNat, by omega⟩
        obtain ⟨hc1, hc2⟩ := HCs.out _ hbu.2
        generalize hac : colsB (l.take j) = acc at *
        have HNx2 : Hid (colsB (l.take (j + 1)) = acc ++ colOf (c, (m : Int))) := HNx
        have HBu : Hid (BufAt w.heap.size acc (.slice av acc.length cav) w wr) := hbu
        have HL : Hid ((colsB (l.take (j + 1))).length ≤ (j + 1) * 131072) := by show _ ≤ _; rw [HNx2.out, List.length_append]; omega
        have hu := UInt8.toNat_lt c
        clear hq HNx hac hbu ho hco
        by_cases h83 : c = 83
        · have e8 := ne_of_beq (is83 h83)
          have HNx3 : Hid (colsB (l.take (j + 1)) = acc) := by show _ = _; rw [HNx2.out, colOf, if_pos h83, List.append_nil]
          have hm0 : decide ((0 : Int) < (m : Int)) = true := by simp; omega
          clear h83 HNx2
          go_wp2
          go_loopw [5, 7] (fun v i wq => v = .slice av acc.length cav ∧ i = .int .i64 0 ∧ wq = wr) (fun _ _ _ => 0)
          case atStart => exact ⟨rfl, rfl, rfl⟩
          case round =>
            obtain ⟨rfl, rfl, rfl⟩ := hrel
            go_wp2
            go_roundw
            case rel => exact ⟨j + 1, by omega, by go_num, by rw [HNx3.out]; exact HBu.out, HL.out⟩
            case measure => simp [intOf]; omega
        · have e8 := ne_of_beq (not83 h83)
          have HNx3 : Hid (colsB (l.take (j + 1)) = acc ++ List.replicate m c) := by show _ = _; rw [HNx2.out, colOf, if_neg h83]; simp
          clear h83 HNx2
          go_wp2
          go_loopw [5, 7] (fun v i wq => ∃ k : Nat, k ≤ m ∧ i = .int .i64 k ∧ BufAt w.heap.size (acc ++ List.replicate k c) v w wq) (fun _ i _ => m - (intOf i).toNat)
          case atStart => exact ⟨0, Nat.zero_le _, rfl, by simpa using HBu.out⟩
          case round =>
            obtain ⟨k, hk, rfl, hbk⟩ := hrel
            obtain ⟨ak, cak, rfl⟩ := owned_shape hbk.1
            obtain ⟨hd1, hd2⟩ := HCs.out _ hbk.2
            have hsk := hbk.2.size
            have hlk : (acc ++ List.replicate k c).length ≤ acc.length + m := by simp; omega
            have HBk : Hid (BufAt w.heap.size (acc ++ List.replicate k c) (.slice ak (acc ++ List.replicate k c).length cak) w wr) := hbk
            clear hbk
            by_cases hkm : k < m
            · have hdm : decide ((k : Int) < (m : Int)) = true := by simp; omega
              have HN : Hid (acc ++ List.replicate (k + 1) c = acc ++ List.replicate k c ++ [c]) := replicate_snoc _ _ _
              generalize acc ++ List.replicate k c = bc at *
              go_wp2_with (at_builtin; go_loud (refine wpList_append_own _ rfl _ _ 45 rfl w.heap.size 5 i0 (.int .u8 0) 1 1 Tryd.underlying45 hi hz0 hz1 hz2 rfl (by decide) (.slice ak bc.length cak) _ _ rfl (HBk.out.1.alloc _) ⟨_, 0, none⟩ 1 1 [.int .u8 (c.toNat : Int)] rfl rfl ?c1 (one_cell c) ?c3 ?c4 ?c5 ?_))
              case c1 =>
                intro i u hu
                match i, hu with
                | 0, hu => simp at hu; subst hu; simp [Addr.add]
              case c3 => unfold maxLen; omega
              case c4 => omega
              case c5 => simp; omega
              intro v' w3 hown' hgrow _
              have HB3 : Hid (BufAt w.heap.size (bc ++ [c]) v' w w3) := HBk.out.snoc hsk hown' hgrow
              clear hown' hgrow
              go_wp2
              go_roundw
              case rel => exact ⟨k + 1, by omega, by go_num, by rw [HN.out]; exact HB3.out⟩
              case measure => simp [intOf]; omega
            · have hdm : decide ((k : Int) < (m : Int)) = false := by simp; omega
              have HKm : Hid (k = m) := by show _ = _; omega
              go_wp2
              go_roundw
              case rel => exact ⟨j + 1, by omega, by go_num, by rw [HNx3.out, ← HKm.out]; exact HBk.out, HL.out⟩
              case measure => simp [intOf]; omega
      · have hdk : decide ((j : Int) < (len : Int)) = false := by simp; omega
        have HT : Hid (l.take j = l) := List.take_of_length_le (by rw [HZL.out]; omega)
        have hconv := owned_text hbu.1
        have HBe : Hid (Below w.heap.size w wr) := hbu.2
        clear hbu
        go_wp2
        go_ret2
        exact text_post HE.out (by rw [HT.out]) HBe.out
end Go.Proofs.YtkecpjgpgnfhmaaDoor
