/-
  The walks of the document's own IsWord, IsName, number, text, IsText, sign.
-/
import Derived.Test.YtnnmhmlebffacaaRefA
namespace Go.Proofs.Ytnnmhmlebffacaa
open Go.RowKit

/-! IsWord -/
def wordVals : Array Value := (wordsB.map fun l => Value.string (bs l)).toArray
theorem word_cell (W : World) (b : Nat) (f : Nat × Nat) (h : W.heap[b]? = some (.cells wordVals 9 f)) (k : Nat) (hk : k < 16) : ∃ x, wordsB[k]? = some x ∧ W.cell? ⟨b, k, none⟩ = some (.string (bs x)) := by
  have hl : wordsB.length = 16 := rfl
  refine ⟨wordsB[k]'(by omega), List.getElem?_eq_getElem (by omega), ?_⟩
  rw [cell_of_row W b k _ 9 f h]
  simp [wordVals, hl, hk]
theorem word_take {S x : List UInt8} {k : Nat} (hx : wordsB[k]? = some x) (h : S ∉ wordsB.take k) (hne : S ≠ x) : S ∉ wordsB.take (k + 1) := by
  obtain ⟨hlt, he⟩ := List.getElem?_eq_some_iff.1 hx
  rw [List.take_succ_eq_append_getElem hlt, he]
  simp [h, hne]
set_option maxRecDepth 20000 in
set_option maxHeartbeats 2000000 in
theorem refWord_calls (s : ByteArray) (w : World) :
    Calls Try.prog 71 #[.string s] w fun e w' => e = .returned (.bool (wordB s.data.toList)) ∧ Below w.heap.size w w' := by
  have HA : Hid (∀ cs, cs = wordVals → (w.alloc (.cells cs 9 (0, 0))).heap[w.heap.size]? = some (.cells wordVals 9 (0, 0))) := fun cs h => by subst h; exact heap_alloc_new w _
  have HB : Hid (∀ o, Below w.heap.size w (w.alloc o)) := fun o => (Below.refl _ _).alloc (Nat.le_refl _) _
  go_enter Try.func71, Try.ntmps71
  go_wp2
  generalize hW : w.alloc _ = W at *
  have hans : W.heap[w.heap.size]? = some (.cells wordVals 9 (0, 0)) := by rw [← hW]; exact HA.out _ rfl
  have HBW : Hid (Below w.heap.size w W) := by rw [← hW]; exact HB.out _
  have HAn : Hid (W.heap[w.heap.size]? = some (.cells wordVals 9 (0, 0))) := hans
  clear hans hW HA HB
  go_loop [4] (fun i => ∃ k : Nat, k ≤ 16 ∧ i = .int .i64 k ∧ s.data.toList ∉ wordsB.take k) (fun i => 16 - (intOf i).toNat)
  case atStart => exact ⟨0, by omega, rfl, by simp⟩
  case round =>
    obtain ⟨k, hk, rfl, hn⟩ := hrel
    have HN : Hid (s.data.toList ∉ wordsB.take k) := hn
    clear hn
    by_cases hlt : k < 16
    · obtain ⟨x, hx, hc⟩ := word_cell W w.heap.size (0, 0) HAn.out k hlt
      have hdk : decide ((k : Int) < 16) = true := by simp; omega
      by_cases he : s.data.toList = x
      · have hb : ((bs x).toList == s.toList) = true := by rw [bs_toList, ByteArray.toList_eq, he]; simp
        have HE : Hid (wordB s.data.toList = true) := by
          show _ = _
          rw [he]
          simp only [wordB, decide_eq_true_eq]
          exact List.mem_of_getElem? hx
        clear hx he HN
        go_wp2
        go_ret
        exact ⟨ret_bool HE.out.symm, HBW.out⟩
      · have hb : ((bs x).toList == s.toList) = false := by
          rw [bs_toList, ByteArray.toList_eq, beq_eq_false_iff_ne]
          exact fun e => he e.symm
        have HS : Hid (s.data.toList ∉ wordsB.take (k + 1)) := word_take hx HN.out he
        clear hx he HN
        go_wp2
        go_round
        case rel => exact ⟨k + 1, by omega, by go_num, HS.out⟩
        case measure => simp [intOf]; omega
    · have hdk : decide ((k : Int) < 16) = false := by simp; omega
      have HE : Hid (wordB s.data.toList = false) := by
        show _ = _
        have h := HN.out
        rw [List.take_of_length_le (by show 16 ≤ k; omega)] at h
        simp only [wordB, decide_eq_false_iff_not]
        exact h
      clear HN
      go_wp2
      go_ret
      exact ⟨ret_bool HE.out.symm, HBW.out⟩
end Go.Proofs.Ytnnmhmlebffacaa
