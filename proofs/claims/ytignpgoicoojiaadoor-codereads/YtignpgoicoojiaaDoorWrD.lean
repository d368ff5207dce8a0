/-
  The walks of check and the document's Check.
-/
import Derived.Test.YtignpgoicoojiaaDoorWrC
namespace Go.Proofs.YtignpgoicoojiaaDoor
open Go.RowKit

theorem ckGo_snoc : ∀ (l : List UInt8) (a b : Nat) (x : UInt8), ckGo a b (l ++ [x]) = (((ckGo a b l).1 + x.toNat) % 65521, ((ckGo a b l).2 + ((ckGo a b l).1 + x.toNat) % 65521) % 65521)
  | [], a, b, x => rfl
  | y :: l, a, b, x => by
    show ckGo _ _ (l ++ [x]) = _
    rw [ckGo_snoc l]; rfl
theorem ckGo_lt : ∀ (l : List UInt8) (a b : Nat), a < 65521 → b < 65521 → (ckGo a b l).1 < 65521 ∧ (ckGo a b l).2 < 65521
  | [], a, b, h1, h2 => ⟨h1, h2⟩
  | y :: l, a, b, h1, h2 => ckGo_lt l _ _ (Nat.mod_lt _ (by decide)) (Nat.mod_lt _ (by decide))
theorem ck_take {t : List UInt8} {k : Nat} {x : UInt8} (h : t[k]? = some x) : ckGo 1 0 (t.take (k + 1)) = (((ckGo 1 0 (t.take k)).1 + x.toNat) % 65521, ((ckGo 1 0 (t.take k)).2 + ((ckGo 1 0 (t.take k)).1 + x.toNat) % 65521) % 65521) := by
  rw [List.take_add_one, h]
  exact ckGo_snoc _ _ _ _
theorem four_text (W : World) (g : Nat) (hg : g = W.heap.size) (x1 x2 x3 x4 : Int) (t : List UInt8) (ht : [x1, x2, x3, x4] = t.map fun (c : UInt8) => (c.toNat : Int)) :
    (convert 42 9 (.slice (some ⟨g, 0, none⟩) 4 4)).run Tryd.prog (W.alloc (.cells #[.int .u8 x1, .int .u8 x2, .int .u8 x3, .int .u8 x4] 5)) = .ok (.string ⟨t.toArray⟩) (W.alloc (.cells #[.int .u8 x1, .int .u8 x2, .int .u8 x3, .int .u8 x4] 5)) := by
  subst hg
  have hl : t.length = 4 := by have := congrArg List.length ht; simpa using this.symm
  have := run_convert_bytes_back (W.alloc (.cells #[.int .u8 x1, .int .u8 x2, .int .u8 x3, .int .u8 x4] 5)) 42 9 5 ⟨W.heap.size, 0, none⟩ 4 t Tryd.underlying42 Tryd.underlying5 Tryd.underlying9 ?_
  · rw [hl] at this; exact this
  · intro j hj
    have hadd : (⟨W.heap.size, 0, none⟩ : Addr).add j = ⟨W.heap.size, j, none⟩ := by unfold Addr.add; split <;> simp_all
    have h2 : [x1, x2, x3, x4][j]? = some ((t[j]).toNat : Int) := by rw [ht]; simp [hj]
    rw [hadd]
    obtain ⟨y, hy⟩ : ∃ y : Int, ((t[j]).toNat : Int) = y := ⟨_, rfl⟩
    rw [hy] at h2 ⊢
    clear hy hadd
    refine cell_block (heap_alloc_new W _) j _ ?_
    clear hj
    match j, h2 with
    | 0, h2 => simp at h2; simp [h2]
    | 1, h2 => simp at h2; simp [h2]
    | 2, h2 => simp at h2; simp [h2]
    | 3, h2 => simp at h2; simp [h2]
    | j + 4, h2 => simp at h2
theorem ck4_map {a b : Nat} (ha : a < 65521) (hb : b < 65521) : [(a : Int) % 256, (a : Int) / 256, (b : Int) % 256, (b : Int) / 256] = (ck4 (a, b)).map fun (c : UInt8) => (c.toNat : Int) := by
  simp only [ck4, List.map]
  rw [byte_of _ (by omega), byte_of _ (by omega), byte_of _ (by omega), byte_of _ (by omega)]
  simp

set_option maxHeartbeats 2000000 in
theorem check_calls (s : ByteArray) (w : World) (hs : s.size ≤ maxLen) :
    Calls Tryd.prog 31 #[.string s] w fun e w' => ∃ t : ByteArray, e = .returned (.string t) ∧ t.data.toList = checkB s.data.toList ∧ Below w.heap.size w w' := by
  unfold maxLen at hs
  go_enter Tryd.func31, Tryd.ntmps31
  go_wp2
  go_loop [3, 4, 5, 8] (fun x y _ i => ∃ k a b : Nat, k ≤ s.size ∧ i = .int .i64 k ∧ x = .int .i64 a ∧ y = .int .i64 b ∧ a < 65521 ∧ b < 65521 ∧ Hid (ckGo 1 0 (s.data.toList.take k) = (a, b))) (fun _ _ _ i => s.size - (intOf i).toNat)
  case atStart => exact ⟨0, 1, 0, Nat.zero_le _, rfl, rfl, rfl, by decide, by decide, rfl⟩
  case round =>
    obtain ⟨k, a, b, hk, rfl, rfl, rfl, ha, hb, HK⟩ := hrel
    by_cases hlt : k < s.size
    · have HN : Hid (ckGo 1 0 (s.data.toList.take (k + 1)) = ((a + s[k].toNat) % 65521, (b + (a + s[k].toNat) % 65521) % 65521)) := by
        show _ = _
        rw [ck_take (getElem?_at s k hlt), HK.out]
      have hu := UInt8.toNat_lt s[k]
      generalize hx : s[k] = x at *
      have hdk : decide ((k : Int) < (s.size : Int)) = true := by simp; omega
      go_wp2
      go_round
      case rel => exact ⟨k + 1, (a + x.toNat) % 65521, (b + (a + x.toNat) % 65521) % 65521, by omega, by go_num, by go_num, by go_num, by omega, by omega, HN.out⟩
      case measure => simp [intOf]; omega
    · have hdk : decide ((k : Int) < (s.size : Int)) = false := by simp; omega
      have HE : Hid (checkB s.data.toList = ck4 (a, b)) := by
        have := HK.out
        rw [List.take_of_length_le (by rw [size_toList]; omega)] at this
        show ck4 _ = _
        rw [this]
      have hct := four_text w _ rfl _ _ _ _ _ (ck4_map ha hb)
      go_wp2
      go_ret
      exact ⟨_, rfl, by rw [HE.out], below_new _⟩

set_option maxHeartbeats 2000000 in
theorem refCheck_calls (s : ByteArray) (w : World) (hs : s.size ≤ maxLen) :
    Calls Tryd.prog 34 #[.string s] w fun e w' => ∃ t : ByteArray, e = .returned (.string t) ∧ t.data.toList = checkB s.data.toList ∧ Below w.heap.size w w' := by
  unfold maxLen at hs
  go_enter Tryd.func34, Tryd.ntmps34
  go_wp2
  go_loop [3, 4, 5] (fun x y i => ∃ k a b : Nat, k ≤ s.size ∧ i = .int .i64 k ∧ x = .int .i64 a ∧ y = .int .i64 b ∧ a < 65521 ∧ b < 65521 ∧ Hid (ckGo 1 0 (s.data.toList.take k) = (a, b))) (fun _ _ i => s.size - (intOf i).toNat)
  case atStart => exact ⟨0, 1, 0, Nat.zero_le _, rfl, rfl, rfl, by decide, by decide, rfl⟩
  case round =>
    obtain ⟨k, a, b, hk, rfl, rfl, rfl, ha, hb, HK⟩ := hrel
    by_cases hlt : k < s.size
    · have HN : Hid (ckGo 1 0 (s.data.toList.take (k + 1)) = ((a + s[k].toNat) % 65521, (b + (a + s[k].toNat) % 65521) % 65521)) := by
        show _ = _
        rw [ck_take (getElem?_at s k hlt), HK.out]
      have hu := UInt8.toNat_lt s[k]
      generalize hx : s[k] = x at *
      have hdk : decide ((k : Int) < (s.size : Int)) = true := by simp; omega
      go_wp2
      go_round
      case rel => exact ⟨k + 1, (a + x.toNat) % 65521, (b + (a + x.toNat) % 65521) % 65521, by omega, by go_num, by go_num, by go_num, by omega, by omega, HN.out⟩
      case measure => simp [intOf]; omega
    · have hdk : decide ((k : Int) < (s.size : Int)) = false := by simp; omega
      have HE : Hid (checkB s.data.toList = ck4 (a, b)) := by
        have := HK.out
        rw [List.take_of_length_le (by rw [size_toList]; omega)] at this
        show ck4 _ = _
        rw [this]
      have hct := four_text w _ rfl _ _ _ _ _ (ck4_map ha hb)
      go_wp2
      go_ret
      exact ⟨_, rfl, by rw [HE.out], below_new _⟩
end Go.Proofs.YtignpgoicoojiaaDoor
