/-
  The walk of helixref01.Add: the document's answer on groups, as alpha gives it.
-/
import Derived.Test.YtefngikfidlojaaLists
import Derived.Laws.Concat
namespace Go.Proofs.Ytefngikfidlojaa
open Go.RowKit

theorem capU_toNat (c : UInt8) : ((capU c).toNat : Int) = capOf (c.toNat : Int) := by
  have hb := UInt8.toNat_lt c
  have hr := capOf_range (c.toNat : Int) (by omega) (by omega)
  unfold capU; exact toUInt8_toNat _ hr.1 hr.2
theorem capRef_zero_bad (c : UInt8) (h : capRef (c.toNat : Int) = 0) : ((capU c).toNat : Int) < 65 ∨ 90 < ((capU c).toNat : Int) := by
  rw [capU_toNat]
  unfold capRef at h
  split at h
  · omega
  · split at h
    · omega
    · unfold capOf; rw [if_neg (by assumption)]; omega
theorem capRef_letter (c : UInt8) (h : ¬ capRef (c.toNat : Int) = 0) : capRef (c.toNat : Int) = ((capU c).toNat : Int) ∧ ¬ ((capU c).toNat : Int) = 0 := by
  rw [capU_toNat]
  unfold capRef at h ⊢
  unfold capOf
  split at h
  · rename_i h1; rw [if_pos h1, if_pos h1]; omega
  · split at h
    · rename_i h1 h2; rw [if_neg h1, if_neg h1, if_pos h2]; omega
    · omega
theorem capRefZero_calls (s : ByteArray) (k : Nat) (w : World) (hk : k < s.size) (hz : capRef (s[k].toNat : Int) = 0) :
    Calls Try.prog 22 #[.int .u8 (s[k].toNat : Int)] w fun e w' => e = .returned (.int .u8 0) ∧ w' = w := by
  have hb := UInt8.toNat_lt s[k]
  have h := capitalRef_calls (s[k].toNat : Int) w (by omega) (by omega)
  rw [hz] at h
  exact h
theorem capRefLetter_calls (s : ByteArray) (k : Nat) (w : World) (hk : k < s.size) (hz : ¬ capRef (s[k].toNat : Int) = 0) :
    Calls Try.prog 22 #[.int .u8 (s[k].toNat : Int)] w fun e w' => e = .returned (.int .u8 ((capU s[k]).toNat : Int)) ∧ w' = w := by
  have hb := UInt8.toNat_lt s[k]
  have h := capitalRef_calls (s[k].toNat : Int) w (by omega) (by omega)
  rw [(capRef_letter s[k] hz).1] at h
  exact h
theorem one_text (w : World) (c : UInt8) : (convert 41 9 (.slice (some ⟨w.heap.size, 0, none⟩) 1 1)).run Try.prog (w.alloc (.cells #[.int .u8 (c.toNat : Int)] 5)) = .ok (.string ⟨#[c]⟩) (w.alloc (.cells #[.int .u8 (c.toNat : Int)] 5)) := by
  refine run_convert_bytes_back _ 41 9 5 ⟨w.heap.size, 0, none⟩ 1 [c] Try.underlying41 Try.underlying5 Try.underlying9 ?_
  intro j hj
  match j, hj with
  | 0, _ =>
    have hadd : (⟨w.heap.size, 0, none⟩ : Addr).add 0 = ⟨w.heap.size, 0, none⟩ := by simp [Addr.add]
    rw [hadd, World.cell?_alloc_mark]
    rfl

theorem addB_bad (ss : List ByteArray) (c : UInt8) (hc : c ∈ (groupsOf ss).flatten) (hz : capRef (c.toNat : Int) = 0) : addB (groupsOf ss) = ([], 10) := by
  unfold addB
  rw [if_neg]
  intro hr
  have := rightB_cap _ hr (capU c) (List.mem_map_of_mem hc)
  have h2 := capRef_zero_bad c hz
  omega
theorem mem_groups (ss : List ByteArray) (k j : Nat) (hk : k < ss.length) (s : ByteArray) (hs : ss.getD k ByteArray.empty = s) (hj : j < s.size) : s[j] ∈ (groupsOf ss).flatten := by
  have e : ss[k] = s := by rw [← hs]; simp [List.getD, List.getElem?_eq_getElem hk]
  rw [List.mem_flatten]
  refine ⟨s.data.toList, ?_, ?_⟩
  · unfold groupsOf
    exact List.mem_map.2 ⟨ss[k], List.getElem_mem hk, by rw [e]⟩
  · have hj' : j < s.data.toList.length := by simpa using hj
    have := List.getElem_mem hj'
    exact this
theorem capTake_le (s : ByteArray) (j : Nat) (h : j ≤ s.size) : (capTake s j).length = j := by
  simp [capTake]; omega

set_option maxHeartbeats 1000000 in
theorem addRef_calls (ao : Option Addr) (len cap : Nat) (ss : List ByteArray) (w : World) (hz : StrsAt w ao len ss) :
    Calls Try.prog 15 #[.slice ao len cap] w fun e w' => AddPost ss w e w' := by
  have hm := hz.short
  unfold maxLen at hm
  have HZL : Hid (ss.length = len) := hz.length
  have HZ : Hid (StrsAt w ao len ss) := hz
  clear hz
  go_enter Try.func15, Try.ntmps15
  go_wp2
  go_loopw [4, 5] (fun v i wr => ∃ (k : Nat) (acc : ByteArray), k ≤ len ∧ i = .int .i64 k ∧ v = .string acc ∧ acc.data.toList = gathered ss k ∧ acc.size ≤ 21 ∧ Below w.heap.size w wr) (fun _ i _ => len - (intOf i).toNat)
  case atStart => exact ⟨0, ⟨#[]⟩, Nat.zero_le _, rfl, rfl, by rw [gathered_zero], by decide, Below.refl _ _⟩
  case round =>
    obtain ⟨k, acc, hk, rfl, rfl, hacc, hsz, hbel⟩ := hrel
    have HG : Hid (acc.data.toList = gathered ss k) := hacc
    have HB : Hid (Below w.heap.size w wr) := hbel
    clear hacc hbel
    by_cases hlt : k < len
    · have HK : Hid (k < ss.length) := by rw [HZL.out]; exact hlt
      have hsl : (ss.getD k ByteArray.empty).size ≤ 140737488351232 := by
        have := HZ.out.each (ss[k]'HK.out) (List.getElem_mem HK.out)
        simpa [List.getD, List.getElem?_eq_getElem HK.out] using this
      generalize hs : ss.getD k ByteArray.empty = s at hsl
      have HS : Hid (ss.getD k ByteArray.empty = s) := hs
      clear hs
      obtain ⟨b, off, hao, hcs⟩ := HZ.out.cells (by omega)
      subst hao
      have HC : Hid (w.cell? ⟨b, off + k, none⟩ = some (.string s)) := by
        have := hcs k hlt
        rwa [HS.out] at this
      have HBL : Hid (b < w.heap.size) := World.block_lt_of_cell? w _ HC.out
      clear hcs
      go_wp2
      go_loopw [4, 6] (fun v i wr => ∃ (j : Nat) (acc2 : ByteArray), j ≤ s.size ∧ i = .int .i64 j ∧ v = .string acc2 ∧ acc2.data.toList = acc.data.toList ++ capTake s j ∧ acc2.size ≤ 21 ∧ Below w.heap.size w wr) (fun _ i _ => s.size - (intOf i).toNat)
      case atStart => exact ⟨0, acc, Nat.zero_le _, rfl, rfl, by rw [capTake_zero, List.append_nil], hsz, HB.out⟩
      case round =>
        obtain ⟨j, acc2, hj, rfl, rfl, hacc2, hsz2, hbel2⟩ := hrel
        have HG2 : Hid (acc2.data.toList = acc.data.toList ++ capTake s j) := hacc2
        have HB2 : Hid (Below w.heap.size w wr) := hbel2
        have hc : wr.cell? ⟨b, off + k, none⟩ = some (.string s) := (hbel2.cell (p := ⟨b, off + k, none⟩) HBL.out).trans HC.out
        clear hacc2 hbel2 HB
        by_cases hjl : j < s.size
        · by_cases hz : capRef (s[j].toNat : Int) = 0
          · have HZ0 : Hid (capRef (s[j].toNat : Int) = 0) := hz
            clear hz
            have HE : Hid (addB (groupsOf ss) = ([], 10)) := addB_bad ss s[j] (mem_groups ss k j HK.out s HS.out hjl) HZ0.out
            go_wp2_with (go_at_call 22; refine (capRefZero_calls s j _ hjl HZ0.out).mono ?_; rintro e w' ⟨rfl, rfl⟩)
            go_ret2
            unfold AddPost
            rw [HE.out]
            exact ⟨rfl, HB2.out⟩
          · have HZ0 : Hid (¬ capRef (s[j].toNat : Int) = 0) := hz
            have hnz : (((capU s[j]).toNat : Int) == 0) = false := by rw [beq_eq_false_iff_ne]; exact (capRef_letter s[j] hz).2
            clear hz
            have hal : acc2.size = acc.size + j := by
              have h1 := congrArg List.length HG2.out
              rw [List.length_append, capTake_le s j hj] at h1
              simpa using h1
            by_cases hlong : 20 < acc2.size
            · have HE : Hid (addB (groupsOf ss) = ([], 10)) := by
                refine addB_long ss (k + 1) ?_
                rw [gathered_succ ss k HK.out, HS.out, ← HG.out]
                simp only [List.length_append, List.length_map, Array.length_toList]
                have : s.data.size = s.size := rfl
                have : acc.data.size = acc.size := rfl
                omega
              clear hal
              go_wp2_with (go_at_call 22; refine (capRefLetter_calls s j _ hjl HZ0.out).mono ?_; rintro e w' ⟨rfl, rfl⟩)
              go_ret2
              unfold AddPost
              rw [HE.out]
              exact ⟨rfl, HB2.out⟩
            · clear hal
              have hconv := one_text wr (capU s[j])
              go_wp2_with (go_at_call 22; refine (capRefLetter_calls s j _ hjl HZ0.out).mono ?_; rintro e w' ⟨rfl, hw⟩; rw [hw]; clear hw)
              go_roundw
              case rel =>
                refine ⟨j + 1, acc2 ++ ⟨#[capU s[j]]⟩, by omega, by go_num, rfl, ?_, ?_, HB2.out.alloc HB2.out.size _⟩
                · rw [capTake_succ s j hjl, ← List.append_assoc, ← HG2.out]; simp
                · have : (⟨#[capU s[j]]⟩ : ByteArray).size = 1 := rfl
                  rw [ByteArray.size_append]; omega
              case measure => simp [intOf]; omega
        · go_wp2
          go_roundw
          case rel =>
            refine ⟨k + 1, acc2, by omega, by go_num, rfl, ?_, hsz2, HB2.out⟩
            rw [gathered_succ ss k HK.out, HS.out, ← HG.out, HG2.out, capTake_all s j (by omega)]
          case measure => simp [intOf]; omega
    · have HT : Hid (addB (groupsOf ss) = if rightB acc.data.toList = true then (acc.data.toList, 0) else ([], 10)) := by
        have e : (groupsOf ss).flatten.map capU = acc.data.toList := by rw [HG.out, ← gathered_all, show k = ss.length from by rw [HZL.out]; omega]
        unfold addB
        rw [e]
        exact rfl
      generalize hr : rightB acc.data.toList = r
      have HR : Hid (rightB acc.data.toList = r) := hr
      clear hr
      go_wp2_with fail
      refine (rightRef_calls acc _ (by unfold maxLen; omega)).mono ?_
      rintro e w1 ⟨rfl, hd⟩
      rw [HR.out]
      have HB1 : Hid (Below w.heap.size w w1) := below_drewN' HB.out hd
      clear hd
      cases r with
      | false =>
        go_wp2
        go_ret2
        unfold AddPost
        rw [HT.out, HR.out]
        exact ⟨rfl, HB1.out⟩
      | true =>
        go_wp2
        go_ret2
        unfold AddPost
        rw [HT.out, HR.out]
        exact ⟨rfl, HB1.out⟩
end Go.Proofs.Ytefngikfidlojaa
