/-
  The walk of between.
-/
import Derived.Test.YtnnmhmlebffacaaCls
namespace Go.Proofs.Ytnnmhmlebffacaa
open Go.RowKit

/-! between -/
theorem skip_lf {S : List UInt8} {k : Nat} {m : Bool} (h : S[k]? = some 10) : skipGo m (S.drop k) = 1 + skipGo false (S.drop (k + 1)) := by
  rw [drop_at h, skipGo, if_pos rfl, Nat.add_comm]
theorem skip_rem {S : List UInt8} : ∀ (d k : Nat), k + d ≤ S.length → (∀ j c, j < d → S[k + j]? = some c → c ≠ 10) → skipGo true (S.drop k) = d + skipGo true (S.drop (k + d))
  | 0, k, _, _ => by simp
  | d + 1, k, hl, h => by
    have hk : S[k]? = some (S[k]'(by omega)) := List.getElem?_eq_getElem (by omega)
    have h0 := h 0 _ (by omega) hk
    rw [drop_at hk, skipGo, if_neg h0, if_pos (by simp), skip_rem d (k + 1) (by omega) (fun j c hj hc => h (j + 1) c (by omega) (by rw [← hc]; congr 1; omega))]
    rw [show k + 1 + d = k + (d + 1) by omega]
    omega
theorem skip_blank {S : List UInt8} {k : Nat} {c : UInt8} (h : S[k]? = some c) (h1 : c ≠ 10) (h2 : isBl c = true) : skipGo false (S.drop k) = 1 + skipGo false (S.drop (k + 1)) := by
  rw [drop_at h, skipGo, if_neg h1, if_pos (by simp [h2]), Nat.add_comm]
theorem skip_hash {S : List UInt8} {k : Nat} (h : S[k]? = some 35) : skipGo false (S.drop k) = 1 + skipGo true (S.drop (k + 1)) := by
  rw [drop_at h, skipGo, if_neg (by decide), if_neg (by decide), if_pos rfl, Nat.add_comm]
theorem skip_stop {S : List UInt8} {k : Nat} {c : UInt8} (h : S[k]? = some c) (h2 : isBl c = false) (h3 : c ≠ 35) : skipGo false (S.drop k) = 0 := by
  have h1 : c ≠ 10 := by rintro rfl; exact absurd h2 (by decide)
  rw [drop_at h, skipGo, if_neg h1, if_neg (by simp [h2]), if_neg h3]

set_option maxHeartbeats 2000000 in
theorem between_calls (s : ByteArray) (w : World) :
    Calls Try.prog 36 #[.string s] w fun e w' => e = .returned (.int .i64 (skipB s.data.toList : Int)) ∧ Below w.heap.size w w' := by
  go_enter Try.func36, Try.ntmps36
  go_wp2
  go_loopw [3] (fun v wr => ∃ (pos : Nat) (m : Bool), pos ≤ s.size ∧ v = .bool m ∧ pos + skipGo m (s.data.toList.drop pos) = skipB s.data.toList ∧ wr.heap[w.heap.size]? = some (.stringIter s pos) ∧ Below w.heap.size w wr) (fun _ wr => s.size - wr.iterPos w.heap.size)
  case atStart => exact ⟨0, false, Nat.zero_le _, rfl, by simp [skipB], World.iter_heap w s 0, (Below.refl _ _).alloc (Nat.le_refl _) _⟩
  case round =>
    obtain ⟨pos, m, hp0, rfl, hr, hit, hbw⟩ := hrel
    have hpos0 := iterPos_of hit
    have HR : Hid (pos + skipGo m (s.data.toList.drop pos) = skipB s.data.toList) := hr
    clear hr
    by_cases hp : pos < s.size
    · obtain ⟨x, d, hnx, hd1, hd2, hx⟩ := next_rune wr w.heap.size s pos hit hp
      have HG : Hid (s.data.toList[pos]? = some s[pos]) := getElem?_at s pos hp
      have hit2 := Lib.iterAt_heap wr w.heap.size s pos (pos + d) hit
      have hbw2 := Lib.below_iterAt hbw (k := w.heap.size) (Nat.le_refl _) s (pos + d)
      obtain ⟨W1, hW1⟩ : ∃ W1, W1 = wr.iterAt w.heap.size s (pos + d) := ⟨_, rfl⟩
      rw [← hW1] at hnx hit2 hbw2
      clear hW1 hit hbw
      have hcl : clsI x = clsB s[pos] := rune_cls (by rcases hx with ⟨h, _⟩ | ⟨h1, h2, _⟩; exact .inl h; exact .inr ⟨h1, h2⟩)
      have hten : x = 10 ↔ s[pos] = 10 := by
        rw [show (10 : UInt8) = UInt8.ofNat 10 from rfl, eqN _ 10 (by decide)]
        rcases hx with ⟨h, _⟩ | ⟨h1, h2, _⟩ <;> omega
      generalize hcx : clsI x = kx at *
      have HC : Hid (∀ w, Calls Try.prog 55 #[.int .i32 x] w fun e w' => e = .returned (.int .i64 kx) ∧ w' = w) := fun w => by rw [← hcx]; exact class_calls x w
      have HB : Hid (Below w.heap.size w W1) := hbw2
      have HI : Hid (W1.heap[w.heap.size]? = some (.stringIter s (pos + d))) := hit2
      clear hcx hbw2 hit2
      have low : isBl s[pos] = true ∨ s[pos] = 35 → d = 1 := by
        intro h
        rcases hx with ⟨_, h', _⟩ | ⟨_, h', _⟩
        · exact h'
        · have h0 : clsB s[pos] = 0 := cls_high (by omega)
          rw [← cls_bl, ← cls_hash, h0] at h
          omega
      by_cases h10 : s[pos] = 10
      · have hb : (x == 10) = true := by rw [beq_iff_eq]; exact hten.2 h10
        obtain rfl := low (.inl (by rw [h10]; decide))
        have HN : Hid (pos + 1 + skipGo false (s.data.toList.drop (pos + 1)) = skipB s.data.toList) := by
          have := HR.out
          rw [skip_lf (by rw [HG.out, h10])] at this
          show _ = _
          omega
        clear hcl hx h10 hten low HR HG
        go_wp2
        go_roundw
        case rel => exact ⟨pos + 1, false, by omega, rfl, HN.out, HI.out, HB.out⟩
        case measure => rw [iterPos_of HI.out, hpos0]; omega
      · have hb : (x == 10) = false := by rw [beq_eq_false_iff_ne]; exact fun e => h10 (hten.1 e)
        cases m with
        | true =>
          have HN : Hid (pos + d + skipGo true (s.data.toList.drop (pos + d)) = skipB s.data.toList) := by
            have := HR.out
            rw [skip_rem d pos (by rw [size_toList]; omega) (by
              intro j c hj hc
              rcases hx with ⟨_, rfl, _⟩ | ⟨_, _, hall⟩
              · obtain rfl : j = 0 := by omega
                rw [Nat.add_zero, HG.out] at hc
                cases hc; exact h10
              · have hlt : pos + j < s.size := by omega
                have h1 := hall j hlt hj
                rw [getElem?_at s _ hlt] at hc
                cases hc
                intro e
                rw [e] at h1
                exact absurd h1 (by decide))] at this
            show _ = _
            omega
          clear hcl hx h10 hten low HR HG
          go_wp2
          go_roundw
          case rel => exact ⟨pos + d, true, by omega, rfl, HN.out, HI.out, HB.out⟩
          case measure => rw [iterPos_of HI.out, hpos0]; omega
        | false =>
          cases hbl : isBl s[pos] with
          | true =>
            have hk : (kx == 1) = true := by rw [beq_iff_eq, hcl, cls_bl]; exact hbl
            obtain rfl := low (.inl hbl)
            have HN : Hid (pos + 1 + skipGo false (s.data.toList.drop (pos + 1)) = skipB s.data.toList) := by
              have := HR.out
              rw [skip_blank HG.out h10 hbl] at this
              show _ = _
              omega
            clear hcl hx h10 hten low HR HG
            go_wp2_with (go_at_call 55; refine (HC.out _).mono ?_; rintro e w' ⟨rfl, rfl⟩)
            go_roundw
            case rel => exact ⟨pos + 1, false, by omega, rfl, HN.out, HI.out, HB.out⟩
            case measure => rw [iterPos_of HI.out, hpos0]; omega
          | false =>
            have hk : (kx == 1) = false := by rw [beq_eq_false_iff_ne, hcl, ne_eq, cls_bl, hbl]; decide
            by_cases h35 : s[pos] = 35
            · have hk2 : (kx == 2) = true := by rw [beq_iff_eq, hcl, cls_hash]; exact h35
              obtain rfl := low (.inr h35)
              have HN : Hid (pos + 1 + skipGo true (s.data.toList.drop (pos + 1)) = skipB s.data.toList) := by
                have := HR.out
                rw [skip_hash (by rw [HG.out, h35])] at this
                show _ = _
                omega
              clear hcl hx h10 hten low HR HG h35
              go_wp2_with (go_at_call 55; refine (HC.out _).mono ?_; rintro e w' ⟨rfl, rfl⟩)
              go_roundw
              case rel => exact ⟨pos + 1, true, by omega, rfl, HN.out, HI.out, HB.out⟩
              case measure => rw [iterPos_of HI.out, hpos0]; omega
            · have hk2 : (kx == 2) = false := by rw [beq_eq_false_iff_ne, hcl, ne_eq, cls_hash]; exact h35
              have HE : Hid ((pos : Int) = (skipB s.data.toList : Int)) := by
                have := HR.out
                rw [skip_stop HG.out hbl h35] at this
                show _ = _
                omega
              clear hcl hx h10 hten low HR HG h35
              go_wp2_with (go_at_call 55; refine (HC.out _).mono ?_; rintro e w' ⟨rfl, rfl⟩)
              go_ret
              exact ⟨ret_int HE.out, HB.out⟩
    · have hnx : ∀ ty, (Instr.next (.pointer (some ⟨w.heap.size, 0, none⟩)) true ty).run Try.prog wr = _ := fun ty => Lib.run_next_end_at wr w.heap.size s pos ty hit hp
      have HE : Hid ((s.size : Int) = (skipB s.data.toList : Int)) := by
        have := HR.out
        rw [List.drop_eq_nil_of_le (by rw [size_toList]; omega)] at this
        simp only [skipGo] at this
        show _ = _
        omega
      have HB : Hid (Below w.heap.size w wr) := hbw
      clear hbw HR
      go_wp2
      go_ret
      exact ⟨ret_int HE.out, HB.out⟩
end Go.Proofs.Ytnnmhmlebffacaa
