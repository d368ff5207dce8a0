/-
  The document's IsText is the program's; what the document's Right asks of an expression.
-/
import Derived.Test.YtpeldiibjhffiaaDoorG25
import Derived.Test.YtpeldiibjhffiaaDoorRTr
namespace Go.Proofs.YtpeldiibjhffiaaDoor
open Go.RowKit Go.Deep

theorem innerT_all : ∀ (r : List UInt8), ∀ c ∈ innerB r, c ≠ 34
  | [], c, h => by simp [innerB] at h
  | d :: r, c, h => by
    unfold innerB at h
    rw [List.takeWhile_cons] at h
    split at h
    · rename_i hd
      rcases List.mem_cons.1 h with rfl | h
      · simpa using hd
      · exact innerT_all r c h
    · cases h
theorem innerT_id : ∀ (a : List UInt8), (∀ c ∈ a, c ≠ 34) → innerB (a ++ [34]) = a
  | [], _ => rfl
  | d :: a, h => by
    have h1 := innerT_id a fun c hc => h c (by simp [hc])
    have h2 := h d (by simp)
    unfold innerB at h1 ⊢
    rw [List.cons_append, List.takeWhile_cons, if_pos (by simpa using h2), h1]
theorem txT_of {r : List UInt8} (h : textOk r = true) : txB (innerB r) = true := by
  have hh := h
  unfold textOk at hh
  simp only [Bool.and_eq_true, decide_eq_true_eq] at hh
  have hid := innerT_id (innerB r) (innerT_all r)
  have ht2 : textOk (innerB r ++ [34]) = true := by
    unfold textOk
    rw [hid]
    simp [hh.2.1, hh.2.2]
  generalize innerB r = a at *
  have hq : (34 :: a ++ [34] : List UInt8) = 34 :: (a ++ [34]) := rfl
  have hs : (34 :: a ++ [34] : List UInt8) ≠ [] := by simp
  have he : errB (34 :: a ++ [34]) = 0 := by
    rw [hq, errB, if_neg (by decide), if_neg (by decide), if_pos rfl, if_pos ht2]
  have hl : lenB (34 :: a ++ [34]) = (34 :: a ++ [34]).length := by
    rw [hq, lenB, if_neg (by decide), if_pos rfl, hid]; simp
  have ht : textB (34 :: a ++ [34]) = a := by
    rw [hq, textB, if_neg (by decide), if_neg (by decide), if_pos rfl, hid]
  have hsk : skipB (34 :: a ++ [34]) = 0 := by
    rw [hq]; unfold skipB; rw [skipGo, if_neg (by decide), if_neg (by decide), if_neg (by decide)]
  have hd : (34 :: a ++ [34] : List UInt8).drop (34 :: a ++ [34]).length = [] := List.drop_eq_nil_of_le (Nat.le_refl _)
  have htok : tokB 0 (34 :: a ++ [34]) = ([tkB (34 :: a ++ [34]) 0], 0, 0) := by
    rw [tokB_ok hs he, hl, hd]
    have e0 : skipB ([] : List UInt8) = 0 := rfl
    simp only [e0, Nat.add_zero, hd, tokB_nil]
  have hsc : scanB (34 :: a ++ [34]) = ([tkB (34 :: a ++ [34]) 0, endTk (34 :: a ++ [34]).length], 0, 0) := by
    unfold scanB
    rw [if_neg (by have := hh.2.1; simp; omega), hsk, List.drop_zero, htok]
    rfl
  unfold txB
  rw [hsc]
  simp only [headTx, Bool.and_eq_true, decide_eq_true_eq]
  refine ⟨hh.2.1, by first | rfl | trivial, ?_⟩
  exact decide_eq_true (show textB (34 :: a ++ [34]) = a from ht)
theorem tx_is (s : List UInt8) : isTxtB s = txB s := by
  rw [Bool.eq_iff_iff]
  constructor
  · intro h
    simp only [isTxtB, Bool.and_eq_true, List.all_eq_true, decide_eq_true_eq] at h
    have h34 : ∀ c ∈ s, c ≠ 34 := fun c hc => by
      have := h.1 c hc
      simp only [inText', Bool.and_eq_true, bne_iff_ne] at this
      exact this.2
    have hid := innerT_id s h34
    have ht : textOk (s ++ [34]) = true := by
      unfold textOk
      rw [hid]
      simp only [Bool.and_eq_true, decide_eq_true_eq, List.all_eq_true]
      refine ⟨by simp, h.2, fun c hc => ?_⟩
      have := h.1 c hc
      simp only [inText', Bool.and_eq_true] at this
      exact this.1
    have := txT_of ht
    rw [hid] at this
    exact this
  · intro h
    simp only [txB, Bool.and_eq_true, decide_eq_true_eq] at h
    obtain ⟨h1, h2, h3⟩ := h
    have hq : (34 :: s ++ [34] : List UInt8) = 34 :: (s ++ [34]) := rfl
    rw [hq] at h2 h3
    have hsk : skipB (34 :: (s ++ [34])) = 0 := by unfold skipB; rw [skipGo, if_neg (by decide), if_neg (by decide), if_neg (by decide)]
    have hs : (34 :: (s ++ [34]) : List UInt8) ≠ [] := by simp
    have he : errB (34 :: (s ++ [34])) = 0 := by
      rcases Classical.em (errB (34 :: (s ++ [34])) = 0) with h | h
      · exact h
      · exfalso
        unfold scanB at h2
        rw [if_neg (by simp; omega), hsk, List.drop_zero, tokB_err hs h] at h2
        unfold finB at h2
        rw [if_neg h] at h2
        exact h h2
    have hx : (scanB (34 :: (s ++ [34]))).1 = tkB (34 :: (s ++ [34])) 0 :: ((tokB (0 + lenB (34 :: (s ++ [34])) + skipB ((34 :: (s ++ [34])).drop (lenB (34 :: (s ++ [34]))))) ((34 :: (s ++ [34])).drop (lenB (34 :: (s ++ [34])) + skipB ((34 :: (s ++ [34])).drop (lenB (34 :: (s ++ [34]))))))).1 ++ [endTk (34 :: (s ++ [34])).length]) := by
      unfold scanB at h2 ⊢
      rw [if_neg (by simp; omega), hsk, List.drop_zero, tokB_ok hs he] at h2 ⊢
      unfold finB at h2 ⊢
      split
      · rfl
      · rename_i h0
        rw [if_neg h0] at h2
        exact absurd h2 h0
    rw [hx] at h3
    have ht : textB (34 :: (s ++ [34])) = innerB (s ++ [34]) := by
      rw [textB, if_neg (by decide), if_neg (by decide), if_pos rfl]
    have h4 : innerB (s ++ [34]) = s := by rw [← ht]; exact h3
    obtain ⟨_, hok⟩ := err_text he
    unfold textOk at hok
    simp only [Bool.and_eq_true, decide_eq_true_eq, List.all_eq_true] at hok
    rw [h4] at hok
    have h34 : ∀ c ∈ s, c ≠ 34 := fun c hc => innerT_all (s ++ [34]) c (by rw [h4]; exact hc)
    simp only [isTxtB, Bool.and_eq_true, List.all_eq_true, decide_eq_true_eq]
    refine ⟨fun c hc => ?_, h1⟩
    simp only [inText', Bool.and_eq_true, bne_iff_ne]
    exact ⟨hok.2.2 c hc, h34 c hc⟩
theorem isText_big (s : ByteArray) (w : World) (hs : s.size ≤ 9223372036854775807) :
    Calls Tryd.prog 75 #[.string s] w fun e w' => e = .returned (.bool (isTxtB s.data.toList)) ∧ w' = w := by
  go_enter Tryd.func75, Tryd.ntmps75
  go_wp2
  go_loop [3] (fun i => ∃ k : Nat, k ≤ s.size ∧ i = .int .i64 k ∧ (s.data.toList.take k).all inText' = true) (fun i => s.size - (intOf i).toNat)
  case atStart => exact ⟨0, Nat.zero_le _, rfl, by simp⟩
  case round =>
    obtain ⟨k, hk, rfl, hr⟩ := hrel
    have HR : Hid ((s.data.toList.take k).all inText' = true) := hr
    clear hr
    by_cases hlt : k < s.size
    · have hdk : decide ((k : Int) < (s.size : Int)) = true := by simp; omega
      have HG : Hid (s.data.toList[k]? = some s[k]) := getElem?_at s k hlt
      have hin : inText' s[k] = (!(decide ((s[k].toNat : Int) < 32)) && (!(decide ((126 : Int) < (s[k].toNat : Int))) && !((s[k].toNat : Int) == 34))) := by
        unfold inText' inText
        rw [bne, show (34 : UInt8) = UInt8.ofNat 34 from rfl, beq_byte s[k] 34 (by decide), Bool.eq_iff_iff]
        simp only [Bool.and_eq_true, Bool.not_eq_true', decide_eq_true_eq, decide_eq_false_iff_not, beq_eq_false_iff_ne]
        omega
      cases hc : inText' s[k] with
      | true =>
        have HS : Hid ((s.data.toList.take (k + 1)).all inText' = true) := all_step HG.out HR.out hc
        rw [hc] at hin
        have hin2 := hin.symm
        simp only [Bool.and_eq_true, Bool.not_eq_true'] at hin2
        obtain ⟨h1, h2, h3⟩ := hin2
        clear hin hc HG HR
        go_wp2
        go_round
        case rel => exact ⟨k + 1, by omega, by go_num, HS.out⟩
        case measure => simp [intOf]; omega
      | false =>
        have HE : Hid (isTxtB s.data.toList = false) := by
          show _ = _
          unfold isTxtB; rw [all_no HG.out hc]; rfl
        rw [hc] at hin
        have hq : decide ((s[k].toNat : Int) < 32) = true ∨ (decide ((s[k].toNat : Int) < 32) = false ∧ decide ((126 : Int) < (s[k].toNat : Int)) = true) ∨ (decide ((s[k].toNat : Int) < 32) = false ∧ decide ((126 : Int) < (s[k].toNat : Int)) = false ∧ ((s[k].toNat : Int) == 34) = true) := by
          revert hin
          cases decide ((s[k].toNat : Int) < 32) <;> cases decide ((126 : Int) < (s[k].toNat : Int)) <;> cases ((s[k].toNat : Int) == 34) <;> decide
        clear hin hc HG HR
        rcases hq with h1 | ⟨h1, h2⟩ | ⟨h1, h2, h3⟩ <;> (
          go_wp2
          go_ret
          rw [HE.out]
          exact ⟨rfl, rfl⟩)
    · have hdk : decide ((k : Int) < (s.size : Int)) = false := by simp; omega
      have HE : Hid (isTxtB s.data.toList = decide (s.size ≤ 40)) := by
        have h := HR.out
        rw [List.take_of_length_le (by rw [size_toList]; omega)] at h
        show _ = _
        unfold isTxtB; rw [h, size_toList]; rfl
      clear HR
      go_wp2
      go_ret
      rw [HE.out]
      exact ⟨ret_bool (by first | rfl | (rw [decide_eq_decide]; omega)), rfl⟩
def rgtE (d : Nat) (e : Ex) : Bool := decide (d ≤ 32) && (hdRight e.1 (lenF e.2) && rgtF (32 - d) e.2)
theorem rgtF_cons {d : Nat} (hd : d ≤ 32) (b o : Nat) (h : Hd) (k r : Fo) : rgtF (32 - d) (.node b o h k r) = (rgtE (d + 1) (h, k) && rgtF (32 - d) r) := by
  simp only [rgtF, rgtE]
  rw [show 32 - d - 1 = 32 - (d + 1) by omega, show decide (32 - d ≠ 0) = decide (d + 1 ≤ 32) by rw [decide_eq_decide]; omega]
  simp [Bool.and_assoc]
end Go.Proofs.YtpeldiibjhffiaaDoor
