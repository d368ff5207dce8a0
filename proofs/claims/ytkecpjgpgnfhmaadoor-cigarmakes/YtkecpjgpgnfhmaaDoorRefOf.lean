/-
  The walk of the document's own Of.
-/
import Derived.Test.YtkecpjgpgnfhmaaDoorOf
namespace Go.Proofs.YtkecpjgpgnfhmaaDoor
open Go.RowKit

theorem colB_eq (c : UInt8) : isColB c = !(((c.toNat : Int) != 77) && (((c.toNat : Int) != 68) && ((c.toNat : Int) != 73))) := by
  rw [← isColI_byte]
  unfold isColI
  simp [bne]

set_option maxHeartbeats 4000000 in
theorem refOf_calls (s : ByteArray) (w : World) (hs : s.size ≤ maxLen) :
    Calls Tryd.prog 10 #[.string s] w fun e w' => RunsPost (ofA s.data.toList) w e w' := by
  unfold maxLen at hs
  by_cases hlen : 131072 < s.size
  · have HE : Hid (RunsPost (ofA s.data.toList) w (.returned (.tuple #[.slice none 0 0, .int .i64 2])) w) := runs_none (by unfold ofA; rw [if_pos (by rw [size_toList]; exact hlen)]) (Below.refl _ _)
    have hd : decide ((131072 : Int) < (s.size : Int)) = true := by simp; omega
    go_enter Tryd.func10, Tryd.ntmps10
    go_wp2
    go_ret2
    exact HE.out
  have hd : decide ((131072 : Int) < (s.size : Int)) = false := by simp; omega
  have HA : Hid (ofA s.data.toList = if s.data.toList.all isColB then (runsB s.data.toList, 0) else ([], 40)) := by
    show _ = _
    unfold ofA; rw [if_neg (by rw [size_toList]; exact hlen)]
  obtain ⟨i0, hi, hz0, hz1, hz2⟩ := info_parts info29
  go_enter Tryd.func10, Tryd.ntmps10
  go_wp2
  go_loopw [4, 5] (fun v i wr => ∃ (k : Nat) (l : List Rn), k ≤ s.size ∧ i = .int .i64 k ∧ l = runsB (s.data.toList.take k) ∧ (s.data.toList.take k).all isColB = true ∧ wr.ownsRow w.heap.size 29 2 v l.length (rowCells l) ∧ Below w.heap.size w wr) (fun _ i _ => s.size - (intOf i).toNat)
  case atStart => exact ⟨0, [], Nat.zero_le _, rfl, rfl, by simp, World.ownsRow_nil _ _ _ _, Below.refl _ _⟩
  case round =>
    obtain ⟨k, l, hk, rfl, hl, hal, hown, hbw⟩ := hrel
    obtain ⟨ao, cap, rfl⟩ := owned_shape hown
    have HL : Hid (l = runsB (s.data.toList.take k)) := hl
    have HAl : Hid ((s.data.toList.take k).all isColB = true) := hal
    clear hl hal
    by_cases hp : k < s.size
    · have HG : Hid (s.data.toList[k]? = some s[k]) := getElem?_at s k hp
      have hdk : decide ((k : Int) < (s.size : Int)) = true := by simp; omega
      cases hc : isColB s[k] with
      | false =>
        have HE : Hid (RunsPost (ofA s.data.toList) w (.returned (.tuple #[.slice none 0 0, .int .i64 40])) wr) := runs_none (by rw [HA.out, all_false_at HG.out hc]; rfl) hbw
        rw [colB_eq] at hc
        simp only [Bool.not_eq_false', Bool.and_eq_true] at hc
        obtain ⟨h1, h2, h3⟩ := hc
        clear hown hbw HA HL HAl HG
        go_wp2
        go_ret2
        exact HE.out
      | true =>
        have hok := runs_ok (s.data.toList.take k)
        rw [← HL.out, List.length_take, size_toList, Nat.min_eq_left hk] at hok
        have HN : Hid (lenB l s[k] = runsB (s.data.toList.take (k + 1)) ∧ (s.data.toList.take (k + 1)).all isColB = true) :=
          ⟨by rw [runsB_take _ _ _ HG.out, HL.out], all_take_succ HG.out HAl.out hc⟩
        have hcc : ((s[k].toNat : Int) != 77) = false ∨ (((s[k].toNat : Int) != 77) = true ∧ ((s[k].toNat : Int) != 68) = false) ∨ (((s[k].toNat : Int) != 77) = true ∧ ((s[k].toNat : Int) != 68) = true ∧ ((s[k].toNat : Int) != 73) = false) := by
          rw [colB_eq] at hc
          cases h1 : ((s[k].toNat : Int) != 77) <;> cases h2 : ((s[k].toNat : Int) != 68) <;> cases h3 : ((s[k].toNat : Int) != 73) <;> simp_all
        have hfew := hok.few
        have hwb := hbw.size
        have HApp : Hid (∀ (v' : Value) (w3 : World) (o : Obj), lenB l s[k] = l ++ [(s[k], 1)] → w3.ownsRow w.heap.size 29 2 v' (l.length + 1) (rowCells l ++ rnCells (s[k], 1)) → (wr.alloc o).grownBy w3 (Value.slice ao l.length cap).ownBlock → w3.ownsRow w.heap.size 29 2 v' (lenB l s[k]).length (rowCells (lenB l s[k])) ∧ Below w.heap.size w w3) := by
          intro v' w3 o e1 ho hg
          rw [e1, rowCells_snoc]
          exact ⟨by simpa using ho, hbw.trans (below_append hown hbw.size hg)⟩
        have HO : Hid (wr.ownsRow w.heap.size 29 2 (.slice ao l.length cap) l.length (rowCells l)) := hown
        have HB : Hid (Below w.heap.size w wr) := hbw
        rcases Nat.eq_zero_or_pos k with rfl | hk0
        · have HE : Hid (lenB l s[0] = l ++ [(s[0], 1)]) := by
            show _ = _
            rw [HL.out]; rfl
          clear hown hbw HA HL HAl HG hok hc
          rcases hcc with h1 | ⟨h1, h2⟩ | ⟨h1, h2, h3⟩ <;> (
            go_wp2_with (at_builtin; refine wpList_append_own _ rfl _ _ 23 rfl w.heap.size 29 i0 (.agg #[.int .u8 0, .int .i64 0]) 2 16 Tryd.underlying23 hi hz0 hz1 hz2 rfl (by decide) (.slice ao l.length cap) _ _ rfl (HO.out.alloc _) ⟨wr.heap.size, 0, none⟩ 1 1 (rnCells (s[0], 1)) rfl rfl (cell_two_new _ _ _ _) (rn_oneCell _) (by unfold maxLen; omega) (by omega) (by simp; omega) ?_; intro v' w3 hown' hgrow3 hnil3)
            go_roundw
            case rel => exact ⟨1, lenB l s[0], by omega, by go_num, HN.out.1, HN.out.2, HApp.out _ _ _ HE.out hown' hgrow3⟩
            case measure => simp [intOf]; omega)
        · obtain ⟨j, rfl⟩ : ∃ j, k = j + 1 := ⟨k - 1, by omega⟩
          have hj : j < s.size := by omega
          obtain ⟨m, r, hmr, hr1⟩ := runs_last s.data.toList j s[j] (getElem?_at s j hj)
          rw [← HL.out] at hmr
          have hll : l.length = m.length + 1 := by rw [hmr]; simp
          obtain ⟨g, cap', hv, hbg, hlc, _, hgs⟩ := owned_some hown (by omega)
          obtain ⟨rfl, rfl⟩ : ao = some ⟨g, 0, none⟩ ∧ cap = cap' := by simpa using hv
          have hlr := hok.lens r (by rw [hmr]; simp)
          have hg1 : l[m.length]? = some r := by rw [hmr]; simp
          obtain ⟨k1, k2⟩ := rowCells_get _ _ _ hg1
          obtain ⟨c2, f2⟩ := owned_cells hown _ _ k2
          have hw1 : ((l.length : Nat) : Int) = (m.length : Int) + 1 := by omega
          by_cases hcp : s[j] = s[j + 1]
          · have HE : Hid (lenB l s[j + 1] = m ++ [(s[j + 1], r.2 + 1)]) := by show _ = _; rw [hmr, lenB_snoc, if_pos (by rw [hr1, hcp])]
            have heq : ((s[j].toNat : Int) == (s[j + 1].toNat : Int)) = true := by rw [hcp]; simp
            have HS : Hid ((wr.setCell ⟨g, m.length * 2 + 1, none⟩ (.int .i64 (r.2 + 1))).ownsRow w.heap.size 29 2 (.slice (some ⟨g, 0, none⟩) l.length cap) (lenB l s[j + 1]).length (rowCells (lenB l s[j + 1])) ∧ Below w.heap.size w (wr.setCell ⟨g, m.length * 2 + 1, none⟩ (.int .i64 (r.2 + 1)))) := by
              refine ⟨?_, hbw.setCell hbg _⟩
              have h := owned_set hown (m.length * 2 + 1) (.int .i64 (r.2 + 1))
              rw [rowCells_set _ _ _ _ hg1] at h
              have e : l.set m.length (r.1, r.2 + 1) = m ++ [(s[j + 1], r.2 + 1)] := by rw [hmr, ← hcp, ← hr1]; simp
              rw [e] at h
              have el : (m ++ [(s[j + 1], r.2 + 1)]).length = l.length := by rw [hll]; simp
              rw [HE.out, el]
              exact h
            clear hown hbw HA HL HAl HG hok hc hmr hr1 HO HApp hg1 k1 k2 hv hcp
            have hml : m.length ≤ 131072 := by omega
            rw [hll] at *
            clear hll hw1
            rcases hcc with h1 | ⟨h1, h2⟩ | ⟨h1, h2, h3⟩ <;> (
              go_wp2
              go_roundw
              case rel => exact ⟨j + 1 + 1, lenB l s[j + 1], by omega, by go_num, HN.out.1, HN.out.2, HS.out⟩
              case measure => simp [intOf]; omega)
          · have HE : Hid (lenB l s[j + 1] = l ++ [(s[j + 1], 1)]) := by show _ = _; rw [hmr, lenB_snoc, if_neg (by rw [hr1]; exact hcp)]
            have heq : ((s[j].toNat : Int) == (s[j + 1].toNat : Int)) = false := by
              simp only [beq_eq_false_iff_ne, ne_eq]
              exact fun e => hcp (UInt8.toNat_inj.1 (by omega))
            clear hown hbw HA HL HAl HG hok hc hmr hr1 hg1 k1 k2 hv hcp hll hw1 c2 f2
            rcases hcc with h1 | ⟨h1, h2⟩ | ⟨h1, h2, h3⟩ <;> (
              go_wp2_with (at_builtin; refine wpList_append_own _ rfl _ _ 23 rfl w.heap.size 29 i0 (.agg #[.int .u8 0, .int .i64 0]) 2 16 Tryd.underlying23 hi hz0 hz1 hz2 rfl (by decide) (.slice (some ⟨g, 0, none⟩) l.length cap) _ _ rfl (HO.out.alloc _) ⟨wr.heap.size, 0, none⟩ 1 1 (rnCells (s[j + 1], 1)) rfl rfl (cell_two_new _ _ _ _) (rn_oneCell _) (by unfold maxLen; omega) (by omega) (by simp; omega) ?_; intro v' w3 hown' hgrow3 hnil3)
              go_roundw
              case rel => exact ⟨j + 1 + 1, lenB l s[j + 1], by omega, by go_num, HN.out.1, HN.out.2, HApp.out _ _ _ HE.out hown' hgrow3⟩
              case measure => simp [intOf]; omega)
    · have hdk : decide ((k : Int) < (s.size : Int)) = false := by simp; omega
      have HE : Hid (RunsPost (ofA s.data.toList) w (.returned (.tuple #[.slice ao l.length cap, .int .i64 0])) wr) := by
        have e : s.data.toList.take k = s.data.toList := List.take_of_length_le (by rw [size_toList]; omega)
        have hA : ofA s.data.toList = (l, 0) := by rw [HA.out, HL.out, e, if_pos (by rw [← e]; exact HAl.out)]
        rw [hA]
        exact ⟨_, rfl, hown, hbw⟩
      clear hown hbw HA
      go_wp2
      go_ret2
      exact HE.out
end Go.Proofs.YtkecpjgpgnfhmaaDoor
