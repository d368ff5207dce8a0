/-
  The walks of the document's own IsWord, IsName, number, text, IsText, sign. The walks of the document's own IsName, number, text, IsText, sign. The walks of the document's own text, IsText, sign.
-/
import Derived.Test.YtpeldiibjhffiaaDoorG12
namespace Go.Proofs.YtpeldiibjhffiaaDoor
open Go.RowKit

/-! IsWord -/
def wordVals : Array Value := (wordsB.map fun l => Value.string (bs l)).toArray
theorem word_cell (W : World) (b : Nat) (f : Nat × Nat) (h : W.heap[b]? = some (.cells wordVals 9 f)) (k : Nat) (hk : k < 16) : ∃ x, wordsB[k]? = some x ∧ W.cell? ⟨b, k, none⟩ = some (.string (bs x)) := by
  have hl : wordsB.length = 16 := rfl
  refine ⟨wordsB[k]'(by omega), List.getElem?_eq_getElem (by omega), ?_⟩
  rw [cell_of_row W b k _ 9 f h]
  simp [wordVals, hl, hk]
theorem word_take {S x : List UInt8} {k : Nat} (hx : wordsB[k]? = some x) (h : S ∉ wordsB.take k) (hne : S ≠ x) : S ∉ wordsB.take (k + 1) := by
  obtain ⟨hlt, he⟩ := List.getElem?_eq_some_iff.1 hx
  rw [List.take_succ_eq_append_getElem hlt, he]
  simp [h, hne]
set_option maxRecDepth 20000 in
set_option maxHeartbeats 2000000 in
theorem refWord_calls (s : ByteArray) (w : World) :
    Calls Tryd.prog 72 #[.string s] w fun e w' => e = .returned (.bool (wordB s.data.toList)) ∧ Below w.heap.size w w' := by
  have HA : Hid (∀ cs, cs = wordVals → (w.alloc (.cells cs 9 (0, 0))).heap[w.heap.size]? = some (.cells wordVals 9 (0, 0))) := fun cs h => by subst h; exact heap_alloc_new w _
  have HB : Hid (∀ o, Below w.heap.size w (w.alloc o)) := fun o => (Below.refl _ _).alloc (Nat.le_refl _) _
  go_enter Tryd.func72, Tryd.ntmps72
  go_wp2
  generalize hW : w.alloc _ = W at *
  have hans : W.heap[w.heap.size]? = some (.cells wordVals 9 (0, 0)) := by rw [← hW]; exact HA.out _ rfl
  have HBW : Hid (Below w.heap.size w W) := by rw [← hW]; exact HB.out _
  have HAn : Hid (W.heap[w.heap.size]? = some (.cells wordVals 9 (0, 0))) := hans
  clear hans hW HA HB
  go_loop [4] (fun i => ∃ k : Nat, k ≤ 16 ∧ i = .int .i64 k ∧ s.data.toList ∉ wordsB.take k) (fun i => 16 - (intOf i).toNat)
  case atStart => exact ⟨0, by omega, rfl, by simp⟩
  case round =>
    obtain ⟨k, hk, rfl, hn⟩ := hrel
    have HN : Hid (s.data.toList ∉ wordsB.take k) := hn
    clear hn
    by_cases hlt : k < 16
    · obtain ⟨x, hx, hc⟩ := word_cell W w.heap.size (0, 0) HAn.out k hlt
      have hdk : decide ((k : Int) < 16) = true := by simp; omega
      by_cases he : s.data.toList = x
      · have hb : ((bs x).toList == s.toList) = true := by rw [bs_toList, ByteArray.toList_eq, he]; simp
        have HE : Hid (wordB s.data.toList = true) := by
          show _ = _
          rw [he]
          simp only [wordB, decide_eq_true_eq]
          exact List.mem_of_getElem? hx
        clear hx he HN
        go_wp2
        go_ret
        exact ⟨ret_bool HE.out.symm, HBW.out⟩
      · have hb : ((bs x).toList == s.toList) = false := by
          rw [bs_toList, ByteArray.toList_eq, beq_eq_false_iff_ne]
          exact fun e => he e.symm
        have HS : Hid (s.data.toList ∉ wordsB.take (k + 1)) := word_take hx HN.out he
        clear hx he HN
        go_wp2
        go_round
        case rel => exact ⟨k + 1, by omega, by go_num, HS.out⟩
        case measure => simp [intOf]; omega
    · have hdk : decide ((k : Int) < 16) = false := by simp; omega
      have HE : Hid (wordB s.data.toList = false) := by
        show _ = _
        have h := HN.out
        rw [List.take_of_length_le (by show 16 ≤ k; omega)] at h
        simp only [wordB, decide_eq_false_iff_not]
        exact h
      clear HN
      go_wp2
      go_ret
      exact ⟨ret_bool HE.out.symm, HBW.out⟩
end Go.Proofs.YtpeldiibjhffiaaDoor
namespace Go.Proofs.YtpeldiibjhffiaaDoor
open Go.RowKit

set_option maxHeartbeats 4000000 in
theorem refName_calls (s : ByteArray) (w : World) :
    Calls Tryd.prog 50 #[.string s] w fun e w' => e = .returned (.bool (nameB s.data.toList)) ∧ Below w.heap.size w w' := by
  have HN : Hid (nameB s.data.toList = (!wordB s.data.toList && (decide (1 ≤ s.size) && (decide (s.size ≤ 16) && lettersB s.data.toList)))) := by
    show _ = _
    unfold nameB; rw [size_toList]
  have HW : Hid (∀ w, Calls Tryd.prog 72 #[.string s] w fun e w' => e = .returned (.bool (wordB s.data.toList)) ∧ Below w.heap.size w w') := fun w => refWord_calls s w
  by_cases hno : wordB s.data.toList = true ∨ s.size < 1 ∨ 16 < s.size
  · have HE : Hid (nameB s.data.toList = false) := by
      show _ = _
      rw [HN.out]
      rcases hno with h | h | h
      · rw [h]; rfl
      · rw [decide_eq_false (show ¬ 1 ≤ s.size by omega)]; simp
      · rw [show decide (s.size ≤ 16) = false by simp; omega]; simp
    have hq : wordB s.data.toList = true ∨ (wordB s.data.toList = false ∧ decide ((s.size : Int) < 1) = true) ∨ (wordB s.data.toList = false ∧ decide ((s.size : Int) < 1) = false ∧ decide ((16 : Int) < (s.size : Int)) = true) := by
      cases hw : wordB s.data.toList with
      | true => exact .inl rfl
      | false =>
        rw [hw] at hno
        by_cases h1 : s.size < 1
        · exact .inr (.inl ⟨rfl, decide_eq_true (by omega)⟩)
        · refine .inr (.inr ⟨rfl, decide_eq_false (by omega), decide_eq_true ?_⟩)
          rcases hno with h | h | h
          · cases h
          · omega
          · omega
    clear hno HN
    generalize wordB s.data.toList = W at *
    rcases hq with h1 | ⟨h1, h2⟩ | ⟨h1, h2, h3⟩ <;> (
      subst h1
      go_enter Tryd.func50, Tryd.ntmps50
      go_wp2_with (go_at_call 72; refine (HW.out _).mono ?_; rintro e w1 ⟨rfl, hb1⟩)
      go_ret
      exact ⟨ret_bool HE.out.symm, hb1⟩)
  have hw : wordB s.data.toList = false := by
    cases hw : wordB s.data.toList with
    | true => exact absurd (.inl hw) hno
    | false => rfl
  have hs1 : ¬ s.size < 1 := fun h => hno (.inr (.inl h))
  have hs2 : ¬ 16 < s.size := fun h => hno (.inr (.inr h))
  have h1 : decide ((s.size : Int) < 1) = false := by simp; omega
  have h2 : decide ((16 : Int) < (s.size : Int)) = false := by simp; omega
  have HM : Hid (nameB s.data.toList = lettersB s.data.toList) := by
    show _ = _
    rw [HN.out, hw, show decide (s.size ≤ 16) = true by simp; omega, show decide (1 ≤ s.size) = true by simp; omega]; rfl
  rw [hw] at HW
  clear hno hw HN
  go_enter Tryd.func50, Tryd.ntmps50
  go_wp2_with (go_at_call 72; refine (HW.out _).mono ?_; rintro e w1 ⟨rfl, hb1⟩)
  have HB1 : Hid (Below w.heap.size w w1) := hb1
  clear hb1 HW
  go_loop [4] (fun i => ∃ k : Nat, k ≤ s.size ∧ i = .int .i64 k ∧ lettersB (s.data.toList.take k) = true) (fun i => s.size - (intOf i).toNat)
  case atStart => exact ⟨0, Nat.zero_le _, rfl, by simp [lettersB]⟩
  case round =>
    obtain ⟨k, hk, rfl, hr⟩ := hrel
    have HR : Hid (lettersB (s.data.toList.take k) = true) := hr
    clear hr
    by_cases hlt : k < s.size
    · have hdk : decide ((k : Int) < (s.size : Int)) = true := by simp; omega
      have HG : Hid (s.data.toList[k]? = some s[k]) := getElem?_at s k hlt
      have HS : Hid (∀ w, Calls Tryd.prog 73 #[.int .u8 (s[k].toNat : Int)] w fun e w' => e = .returned (.bool (isSmall s[k])) ∧ w' = w) := fun w => small_calls s[k] w
      have HD : Hid (∀ w, Calls Tryd.prog 74 #[.int .u8 (s[k].toNat : Int)] w fun e w' => e = .returned (.bool (isDig s[k])) ∧ w' = w) := fun w => digit_calls s[k] w
      have HRO : Hid (restOk s[k] = (isSmall s[k] || isDig s[k] || ((s[k].toNat : Int) == 95))) := by
        show _ = _
        unfold restOk
        rw [show (95 : UInt8) = UInt8.ofNat 95 from rfl, beq_byte s[k] 95 (by decide)]; rfl
      have HF : Hid (((k = 0 ∧ isSmall s[k] = false) ∨ restOk s[k] = false) → nameB s.data.toList = false) := fun h => by
        rw [HM.out, lett_fail HG.out h]
      have HT : Hid ((k = 0 → isSmall s[k] = true) → restOk s[k] = true → lettersB (s.data.toList.take (k + 1)) = true) := fun h0 h1 => lett_step HG.out HR.out h0 h1
      rw [HRO.out] at HF HT
      generalize isSmall s[k] = A at *
      generalize isDig s[k] = B at *
      clear HRO HG HR HM
      cases A with
      | true =>
        have HX : Hid (lettersB (s.data.toList.take (k + 1)) = true) := HT.out (fun _ => rfl) (by simp)
        go_wp2_with (first
          | (go_at_call 73; refine (HS.out _).mono ?_; rintro e w' ⟨rfl, rfl⟩)
          | (go_at_call 74; refine (HD.out _).mono ?_; rintro e w' ⟨rfl, rfl⟩))
        go_round
        case rel => exact ⟨k + 1, by omega, by go_num, HX.out⟩
        case measure => simp [intOf]; omega
      | false =>
        by_cases h0 : k = 0
        · have hz : ((k : Int) == 0) = true := by rw [beq_iff_eq]; omega
          have HE : Hid (nameB s.data.toList = false) := HF.out (.inl ⟨h0, rfl⟩)
          clear h0 HF HT
          go_wp2_with (first
            | (go_at_call 73; refine (HS.out _).mono ?_; rintro e w' ⟨rfl, rfl⟩)
            | (go_at_call 74; refine (HD.out _).mono ?_; rintro e w' ⟨rfl, rfl⟩))
          go_ret
          exact ⟨ret_bool HE.out.symm, HB1.out⟩
        · have hz : ((k : Int) == 0) = false := by rw [beq_eq_false_iff_ne]; omega
          cases B with
          | true =>
            have HX : Hid (lettersB (s.data.toList.take (k + 1)) = true) := HT.out (fun h => absurd h h0) (by simp)
            clear HF HT
            go_wp2_with (first
              | (go_at_call 73; refine (HS.out _).mono ?_; rintro e w' ⟨rfl, rfl⟩)
              | (go_at_call 74; refine (HD.out _).mono ?_; rintro e w' ⟨rfl, rfl⟩))
            go_round
            case rel => exact ⟨k + 1, by omega, by go_num, HX.out⟩
            case measure => simp [intOf]; omega
          | false =>
            cases h95 : ((s[k].toNat : Int) == 95) with
            | true =>
              have hne : ((s[k].toNat : Int) != 95) = false := by rw [bne, h95]; rfl
              have HX : Hid (lettersB (s.data.toList.take (k + 1)) = true) := HT.out (fun h => absurd h h0) (by rw [h95]; rfl)
              clear HF HT h95
              go_wp2_with (first
                | (go_at_call 73; refine (HS.out _).mono ?_; rintro e w' ⟨rfl, rfl⟩)
                | (go_at_call 74; refine (HD.out _).mono ?_; rintro e w' ⟨rfl, rfl⟩))
              go_round
              case rel => exact ⟨k + 1, by omega, by go_num, HX.out⟩
              case measure => simp [intOf]; omega
            | false =>
              have hne : ((s[k].toNat : Int) != 95) = true := by rw [bne, h95]; rfl
              have HE : Hid (nameB s.data.toList = false) := HF.out (.inr (by rw [h95]; rfl))
              clear HF HT h95
              go_wp2_with (first
                | (go_at_call 73; refine (HS.out _).mono ?_; rintro e w' ⟨rfl, rfl⟩)
                | (go_at_call 74; refine (HD.out _).mono ?_; rintro e w' ⟨rfl, rfl⟩))
              go_ret
              exact ⟨ret_bool HE.out.symm, HB1.out⟩
    · have hdk : decide ((k : Int) < (s.size : Int)) = false := by simp; omega
      have HE : Hid (nameB s.data.toList = true) := by
        have h := HR.out
        rw [List.take_of_length_le (by rw [size_toList]; omega)] at h
        show _ = _
        rw [HM.out, h]
      clear HR HM
      go_wp2
      go_ret
      exact ⟨ret_bool HE.out.symm, HB1.out⟩

/-! number -/
theorem ret2 {a : Int} {b : Nat} {x y : Bool} (h : a = (b : Int)) (h' : x = y) : Ending.returned (.tuple #[.int .i64 a, .bool x]) = .returned (.tuple #[.int .i64 (b : Int), .bool y]) := by rw [h, h']
end Go.Proofs.YtpeldiibjhffiaaDoor
namespace Go.Proofs.YtpeldiibjhffiaaDoor
open Go.RowKit

/-! text -/
theorem inner_step {S : List UInt8} {k n : Nat} {c : UInt8} (h : S[k]? = some c) (hc : c ≠ 34) (hr : k + (innerB (S.drop k)).length = n) : k + 1 + (innerB (S.drop (k + 1))).length = n := by
  rw [drop_at h] at hr
  simp [innerB, hc] at hr ⊢
  omega
theorem inner_stop {S : List UInt8} {k : Nat} (h : S[k]? = some 34) : (innerB (S.drop k)).length = 0 := by
  rw [drop_at h]; simp [innerB]
theorem inner_take (r : List UInt8) : r.take (innerB r).length = innerB r := by
  induction r with
  | nil => rfl
  | cons c r ih =>
    unfold innerB at ih ⊢
    rw [List.takeWhile_cons]
    split
    · simp [ih]
    · rfl
theorem inner_extract (s : ByteArray) (p k : Nat) (hk : k = p + (innerB (s.data.toList.drop p)).length) : s.extract p k = bs (innerB (s.data.toList.drop p)) := by
  refine byte_ext ?_
  rw [extract_list, bs_list, hk, List.drop_take]
  rw [show p + (innerB (s.data.toList.drop p)).length - p = (innerB (s.data.toList.drop p)).length by omega, inner_take]
def textO (r : List UInt8) : List UInt8 × Bool := if 34 ∈ r then (innerB r, true) else ([], false)
/-! IsText -/
def inText' (c : UInt8) : Bool := inText c && c != 34
def isTxtB (l : List UInt8) : Bool := l.all inText' && decide (l.length ≤ 40)
theorem isText_calls (s : ByteArray) (w : World) (hs : s.size ≤ 4000) :
    Calls Tryd.prog 75 #[.string s] w fun e w' => e = .returned (.bool (isTxtB s.data.toList)) ∧ w' = w := by
  go_enter Tryd.func75, Tryd.ntmps75
  go_wp2
  go_loop [3] (fun i => ∃ k : Nat, k ≤ s.size ∧ i = .int .i64 k ∧ (s.data.toList.take k).all inText' = true) (fun i => s.size - (intOf i).toNat)
  case atStart => exact ⟨0, Nat.zero_le _, rfl, by simp⟩
  case round =>
    obtain ⟨k, hk, rfl, hr⟩ := hrel
    have HR : Hid ((s.data.toList.take k).all inText' = true) := hr
    clear hr
    by_cases hlt : k < s.size
    · have hdk : decide ((k : Int) < (s.size : Int)) = true := by simp; omega
      have HG : Hid (s.data.toList[k]? = some s[k]) := getElem?_at s k hlt
      have hin : inText' s[k] = (!(decide ((s[k].toNat : Int) < 32)) && (!(decide ((126 : Int) < (s[k].toNat : Int))) && !((s[k].toNat : Int) == 34))) := by
        unfold inText' inText
        rw [bne, show (34 : UInt8) = UInt8.ofNat 34 from rfl, beq_byte s[k] 34 (by decide), Bool.eq_iff_iff]
        simp only [Bool.and_eq_true, Bool.not_eq_true', decide_eq_true_eq, decide_eq_false_iff_not, beq_eq_false_iff_ne]
        omega
      cases hc : inText' s[k] with
      | true =>
        have HS : Hid ((s.data.toList.take (k + 1)).all inText' = true) := all_step HG.out HR.out hc
        rw [hc] at hin
        have hin2 := hin.symm
        simp only [Bool.and_eq_true, Bool.not_eq_true'] at hin2
        obtain ⟨h1, h2, h3⟩ := hin2
        clear hin hc HG HR
        go_wp2
        go_round
        case rel => exact ⟨k + 1, by omega, by go_num, HS.out⟩
        case measure => simp [intOf]; omega
      | false =>
        have HE : Hid (isTxtB s.data.toList = false) := by
          show _ = _
          unfold isTxtB; rw [all_no HG.out hc]; rfl
        rw [hc] at hin
        have hq : decide ((s[k].toNat : Int) < 32) = true ∨ (decide ((s[k].toNat : Int) < 32) = false ∧ decide ((126 : Int) < (s[k].toNat : Int)) = true) ∨ (decide ((s[k].toNat : Int) < 32) = false ∧ decide ((126 : Int) < (s[k].toNat : Int)) = false ∧ ((s[k].toNat : Int) == 34) = true) := by
          revert hin
          cases decide ((s[k].toNat : Int) < 32) <;> cases decide ((126 : Int) < (s[k].toNat : Int)) <;> cases ((s[k].toNat : Int) == 34) <;> decide
        clear hin hc HG HR
        rcases hq with h1 | ⟨h1, h2⟩ | ⟨h1, h2, h3⟩ <;> (
          go_wp2
          go_ret
          rw [HE.out]
          exact ⟨rfl, rfl⟩)
    · have hdk : decide ((k : Int) < (s.size : Int)) = false := by simp; omega
      have HE : Hid (isTxtB s.data.toList = decide (s.size ≤ 40)) := by
        have h := HR.out
        rw [List.take_of_length_le (by rw [size_toList]; omega)] at h
        show _ = _
        unfold isTxtB; rw [h, size_toList]; rfl
      clear HR
      go_wp2
      go_ret
      rw [HE.out]
      exact ⟨ret_bool (by first | rfl | (rw [decide_eq_decide]; omega)), rfl⟩

/-! sign -/
def signsL : ByteArray := ⟨#[59, 44, 61, 43, 45, 42, 40, 41]⟩
def signB : List UInt8 → List UInt8
  | [] => []
  | c :: r => if c = 46 ∧ r.head? = some 46 then [46, 46] else if isMark c then [c] else []
theorem mark_mem (c : UInt8) : isMark c = true ↔ c ∈ signsL.data.toList := by
  simp only [isMark, Bool.or_eq_true, beq_iff_eq, signsL, List.mem_cons, List.not_mem_nil, or_false]
  constructor
  · rintro (((((((h | h) | h) | h) | h) | h) | h) | h) <;> simp [h]
  · rintro (h | h | h | h | h | h | h | h) <;> simp [h]
theorem two_points (s : ByteArray) (p : Nat) (h : p + 1 < s.size) : ((s.extract p (p + 2)).toList == [46, 46]) = true ↔ (s[p] = 46 ∧ (s.data.toList.drop (p + 1)).head? = some 46) := by
  have hp : p < s.size := by omega
  have e : (s.extract p (p + 2)).toList = [s[p], s[p + 1]] := by
    rw [ByteArray.toList_eq, extract_list, List.drop_take, show p + 2 - p = 2 by omega, drop_at (getElem?_at s p hp), drop_at (getElem?_at s (p + 1) h)]
    rfl
  rw [e, beq_iff_eq, drop_at (getElem?_at s (p + 1) h)]
  simp
theorem one_extract (L : ByteArray) (k q : Nat) (h : k < L.size) (hq : q = k + 1) : L.extract k q = bs [L[k]] := by
  refine byte_ext ?_
  subst hq
  rw [extract_list, bs_list, List.drop_take, show k + 1 - k = 1 by omega, drop_at (getElem?_at L k h)]
  rfl
end Go.Proofs.YtpeldiibjhffiaaDoor
