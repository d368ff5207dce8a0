/-
  The walks of the document's own IsName, number, text, IsText, sign. The walks of the document's own text, IsText, sign. Where the tokens of a source stand, and what they are.
-/
import Derived.Test.YtlaodgdlkkmmeaaGreatG22
import Derived.Test.YtlaodgdlkkmmeaaGreatG03
namespace Go.Proofs.YtlaodgdlkkmmeaaGreat
open Go.RowKit

set_option maxHeartbeats 4000000 in
theorem refName_calls (s : ByteArray) (w : World) :
    Calls Tryz.prog 97 #[.string s] w fun e w' => e = .returned (.bool (nameB s.data.toList)) ∧ Below w.heap.size w w' := by
  have HN : Hid (nameB s.data.toList = (!wordB s.data.toList && (decide (1 ≤ s.size) && (decide (s.size ≤ 16) && lettersB s.data.toList)))) := by
    show _ = _
    unfold nameB; rw [size_toList]
  have HW : Hid (∀ w, Calls Tryz.prog 128 #[.string s] w fun e w' => e = .returned (.bool (wordB s.data.toList)) ∧ Below w.heap.size w w') := fun w => refWord_calls s w
  by_cases hno : wordB s.data.toList = true ∨ s.size < 1 ∨ 16 < s.size
  · have HE : Hid (nameB s.data.toList = false) := by
      show _ = _
      rw [HN.out]
      rcases hno with h | h | h
      · rw [h]; rfl
      · rw [decide_eq_false (show ¬ 1 ≤ s.size by omega)]; simp
      · rw [show decide (s.size ≤ 16) = false by simp; omega]; simp
    have hq : wordB s.data.toList = true ∨ (wordB s.data.toList = false ∧ decide ((s.size : Int) < 1) = true) ∨ (wordB s.data.toList = false ∧ decide ((s.size : Int) < 1) = false ∧ decide ((16 : Int) < (s.size : Int)) = true) := by
      cases hw : wordB s.data.toList with
      | true => exact .inl rfl
      | false =>
        rw [hw] at hno
        by_cases h1 : s.size < 1
        · exact .inr (.inl ⟨rfl, decide_eq_true (by omega)⟩)
        · refine .inr (.inr ⟨rfl, decide_eq_false (by omega), decide_eq_true ?_⟩)
          rcases hno with h | h | h
          · cases h
          · omega
          · omega
    clear hno HN
    generalize wordB s.data.toList = W at *
    rcases hq with h1 | ⟨h1, h2⟩ | ⟨h1, h2, h3⟩ <;> (
      subst h1
      go_enter Tryz.func97, Tryz.ntmps97
      go_wp2_with (go_at_call 128; refine (HW.out _).mono ?_; rintro e w1 ⟨rfl, hb1⟩)
      go_ret
      exact ⟨ret_bool HE.out.symm, hb1⟩)
  have hw : wordB s.data.toList = false := by
    cases hw : wordB s.data.toList with
    | true => exact absurd (.inl hw) hno
    | false => rfl
  have hs1 : ¬ s.size < 1 := fun h => hno (.inr (.inl h))
  have hs2 : ¬ 16 < s.size := fun h => hno (.inr (.inr h))
  have h1 : decide ((s.size : Int) < 1) = false := by simp; omega
  have h2 : decide ((16 : Int) < (s.size : Int)) = false := by simp; omega
  have HM : Hid (nameB s.data.toList = lettersB s.data.toList) := by
    show _ = _
    rw [HN.out, hw, show decide (s.size ≤ 16) = true by simp; omega, show decide (1 ≤ s.size) = true by simp; omega]; rfl
  rw [hw] at HW
  clear hno hw HN
  go_enter Tryz.func97, Tryz.ntmps97
  go_wp2_with (go_at_call 128; refine (HW.out _).mono ?_; rintro e w1 ⟨rfl, hb1⟩)
  have HB1 : Hid (Below w.heap.size w w1) := hb1
  clear hb1 HW
  go_loop [4] (fun i => ∃ k : Nat, k ≤ s.size ∧ i = .int .i64 k ∧ lettersB (s.data.toList.take k) = true) (fun i => s.size - (intOf i).toNat)
  case atStart => exact ⟨0, Nat.zero_le _, rfl, by simp [lettersB]⟩
  case round =>
    obtain ⟨k, hk, rfl, hr⟩ := hrel
    have HR : Hid (lettersB (s.data.toList.take k) = true) := hr
    clear hr
    by_cases hlt : k < s.size
    · have hdk : decide ((k : Int) < (s.size : Int)) = true := by simp; omega
      have HG : Hid (s.data.toList[k]? = some s[k]) := getElem?_at s k hlt
      have HS : Hid (∀ w, Calls Tryz.prog 129 #[.int .u8 (s[k].toNat : Int)] w fun e w' => e = .returned (.bool (isSmall s[k])) ∧ w' = w) := fun w => small_calls s[k] w
      have HD : Hid (∀ w, Calls Tryz.prog 130 #[.int .u8 (s[k].toNat : Int)] w fun e w' => e = .returned (.bool (isDig s[k])) ∧ w' = w) := fun w => digit_calls s[k] w
      have HRO : Hid (restOk s[k] = (isSmall s[k] || isDig s[k] || ((s[k].toNat : Int) == 95))) := by
        show _ = _
        unfold restOk
        rw [show (95 : UInt8) = UInt8.ofNat 95 from rfl, beq_byte s[k] 95 (by decide)]; rfl
      have HF : Hid (((k = 0 ∧ isSmall s[k] = false) ∨ restOk s[k] = false) → nameB s.data.toList = false) := fun h => by
        rw [HM.out, lett_fail HG.out h]
      have HT : Hid ((k = 0 → isSmall s[k] = true) → restOk s[k] = true → lettersB (s.data.toList.take (k + 1)) = true) := fun h0 h1 => lett_step HG.out HR.out h0 h1
      rw [HRO.out] at HF HT
      generalize isSmall s[k] = A at *
      generalize isDig s[k] = B at *
      clear HRO HG HR HM
      cases A with
      | true =>
        have HX : Hid (lettersB (s.data.toList.take (k + 1)) = true) := HT.out (fun _ => rfl) (by simp)
        go_wp2_with (first
          | (go_at_call 129; refine (HS.out _).mono ?_; rintro e w' ⟨rfl, rfl⟩)
          | (go_at_call 130; refine (HD.out _).mono ?_; rintro e w' ⟨rfl, rfl⟩))
        go_round
        case rel => exact ⟨k + 1, by omega, by go_num, HX.out⟩
        case measure => simp [intOf]; omega
      | false =>
        by_cases h0 : k = 0
        · have hz : ((k : Int) == 0) = true := by rw [beq_iff_eq]; omega
          have HE : Hid (nameB s.data.toList = false) := HF.out (.inl ⟨h0, rfl⟩)
          clear h0 HF HT
          go_wp2_with (first
            | (go_at_call 129; refine (HS.out _).mono ?_; rintro e w' ⟨rfl, rfl⟩)
            | (go_at_call 130; refine (HD.out _).mono ?_; rintro e w' ⟨rfl, rfl⟩))
          go_ret
          exact ⟨ret_bool HE.out.symm, HB1.out⟩
        · have hz : ((k : Int) == 0) = false := by rw [beq_eq_false_iff_ne]; omega
          cases B with
          | true =>
            have HX : Hid (lettersB (s.data.toList.take (k + 1)) = true) := HT.out (fun h => absurd h h0) (by simp)
            clear HF HT
            go_wp2_with (first
              | (go_at_call 129; refine (HS.out _).mono ?_; rintro e w' ⟨rfl, rfl⟩)
              | (go_at_call 130; refine (HD.out _).mono ?_; rintro e w' ⟨rfl, rfl⟩))
            go_round
            case rel => exact ⟨k + 1, by omega, by go_num, HX.out⟩
            case measure => simp [intOf]; omega
          | false =>
            cases h95 : ((s[k].toNat : Int) == 95) with
            | true =>
              have hne : ((s[k].toNat : Int) != 95) = false := by rw [bne, h95]; rfl
              have HX : Hid (lettersB (s.data.toList.take (k + 1)) = true) := HT.out (fun h => absurd h h0) (by rw [h95]; rfl)
              clear HF HT h95
              go_wp2_with (first
                | (go_at_call 129; refine (HS.out _).mono ?_; rintro e w' ⟨rfl, rfl⟩)
                | (go_at_call 130; refine (HD.out _).mono ?_; rintro e w' ⟨rfl, rfl⟩))
              go_round
              case rel => exact ⟨k + 1, by omega, by go_num, HX.out⟩
              case measure => simp [intOf]; omega
            | false =>
              have hne : ((s[k].toNat : Int) != 95) = true := by rw [bne, h95]; rfl
              have HE : Hid (nameB s.data.toList = false) := HF.out (.inr (by rw [h95]; rfl))
              clear HF HT h95
              go_wp2_with (first
                | (go_at_call 129; refine (HS.out _).mono ?_; rintro e w' ⟨rfl, rfl⟩)
                | (go_at_call 130; refine (HD.out _).mono ?_; rintro e w' ⟨rfl, rfl⟩))
              go_ret
              exact ⟨ret_bool HE.out.symm, HB1.out⟩
    · have hdk : decide ((k : Int) < (s.size : Int)) = false := by simp; omega
      have HE : Hid (nameB s.data.toList = true) := by
        have h := HR.out
        rw [List.take_of_length_le (by rw [size_toList]; omega)] at h
        show _ = _
        rw [HM.out, h]
      clear HR HM
      go_wp2
      go_ret
      exact ⟨ret_bool HE.out.symm, HB1.out⟩

/-! number -/
theorem ret2 {a : Int} {b : Nat} {x y : Bool} (h : a = (b : Int)) (h' : x = y) : Ending.returned (.tuple #[.int .i64 a, .bool x]) = .returned (.tuple #[.int .i64 (b : Int), .bool y]) := by rw [h, h']
end Go.Proofs.YtlaodgdlkkmmeaaGreat
namespace Go.Proofs.YtlaodgdlkkmmeaaGreat
open Go.RowKit

/-! text -/
theorem inner_step {S : List UInt8} {k n : Nat} {c : UInt8} (h : S[k]? = some c) (hc : c ≠ 34) (hr : k + (innerB (S.drop k)).length = n) : k + 1 + (innerB (S.drop (k + 1))).length = n := by
  rw [drop_at h] at hr
  simp [innerB, hc] at hr ⊢
  omega
theorem inner_stop {S : List UInt8} {k : Nat} (h : S[k]? = some 34) : (innerB (S.drop k)).length = 0 := by
  rw [drop_at h]; simp [innerB]
theorem inner_take (r : List UInt8) : r.take (innerB r).length = innerB r := by
  induction r with
  | nil => rfl
  | cons c r ih =>
    unfold innerB at ih ⊢
    rw [List.takeWhile_cons]
    split
    · simp [ih]
    · rfl
theorem inner_extract (s : ByteArray) (p k : Nat) (hk : k = p + (innerB (s.data.toList.drop p)).length) : s.extract p k = bs (innerB (s.data.toList.drop p)) := by
  refine byte_ext ?_
  rw [extract_list, bs_list, hk, List.drop_take]
  rw [show p + (innerB (s.data.toList.drop p)).length - p = (innerB (s.data.toList.drop p)).length by omega, inner_take]
def textO (r : List UInt8) : List UInt8 × Bool := if 34 ∈ r then (innerB r, true) else ([], false)
/-! IsText -/
def inText' (c : UInt8) : Bool := inText c && c != 34
def isTxtB (l : List UInt8) : Bool := l.all inText' && decide (l.length ≤ 40)
theorem isText_calls (s : ByteArray) (w : World) (hs : s.size ≤ 4000) :
    Calls Tryz.prog 131 #[.string s] w fun e w' => e = .returned (.bool (isTxtB s.data.toList)) ∧ w' = w := by
  go_enter Tryz.func131, Tryz.ntmps131
  go_wp2
  go_loop [3] (fun i => ∃ k : Nat, k ≤ s.size ∧ i = .int .i64 k ∧ (s.data.toList.take k).all inText' = true) (fun i => s.size - (intOf i).toNat)
  case atStart => exact ⟨0, Nat.zero_le _, rfl, by simp⟩
  case round =>
    obtain ⟨k, hk, rfl, hr⟩ := hrel
    have HR : Hid ((s.data.toList.take k).all inText' = true) := hr
    clear hr
    by_cases hlt : k < s.size
    · have hdk : decide ((k : Int) < (s.size : Int)) = true := by simp; omega
      have HG : Hid (s.data.toList[k]? = some s[k]) := getElem?_at s k hlt
      have hin : inText' s[k] = (!(decide ((s[k].toNat : Int) < 32)) && (!(decide ((126 : Int) < (s[k].toNat : Int))) && !((s[k].toNat : Int) == 34))) := by
        unfold inText' inText
        rw [bne, show (34 : UInt8) = UInt8.ofNat 34 from rfl, beq_byte s[k] 34 (by decide), Bool.eq_iff_iff]
        simp only [Bool.and_eq_true, Bool.not_eq_true', decide_eq_true_eq, decide_eq_false_iff_not, beq_eq_false_iff_ne]
        omega
      cases hc : inText' s[k] with
      | true =>
        have HS : Hid ((s.data.toList.take (k + 1)).all inText' = true) := all_step HG.out HR.out hc
        rw [hc] at hin
        have hin2 := hin.symm
        simp only [Bool.and_eq_true, Bool.not_eq_true'] at hin2
        obtain ⟨h1, h2, h3⟩ := hin2
        clear hin hc HG HR
        go_wp2
        go_round
        case rel => exact ⟨k + 1, by omega, by go_num, HS.out⟩
        case measure => simp [intOf]; omega
      | false =>
        have HE : Hid (isTxtB s.data.toList = false) := by
          show _ = _
          unfold isTxtB; rw [all_no HG.out hc]; rfl
        rw [hc] at hin
        have hq : decide ((s[k].toNat : Int) < 32) = true ∨ (decide ((s[k].toNat : Int) < 32) = false ∧ decide ((126 : Int) < (s[k].toNat : Int)) = true) ∨ (decide ((s[k].toNat : Int) < 32) = false ∧ decide ((126 : Int) < (s[k].toNat : Int)) = false ∧ ((s[k].toNat : Int) == 34) = true) := by
          revert hin
          cases decide ((s[k].toNat : Int) < 32) <;> cases decide ((126 : Int) < (s[k].toNat : Int)) <;> cases ((s[k].toNat : Int) == 34) <;> decide
        clear hin hc HG HR
        rcases hq with h1 | ⟨h1, h2⟩ | ⟨h1, h2, h3⟩ <;> (
          go_wp2
          go_ret
          rw [HE.out]
          exact ⟨rfl, rfl⟩)
    · have hdk : decide ((k : Int) < (s.size : Int)) = false := by simp; omega
      have HE : Hid (isTxtB s.data.toList = decide (s.size ≤ 40)) := by
        have h := HR.out
        rw [List.take_of_length_le (by rw [size_toList]; omega)] at h
        show _ = _
        unfold isTxtB; rw [h, size_toList]; rfl
      clear HR
      go_wp2
      go_ret
      rw [HE.out]
      exact ⟨ret_bool (by first | rfl | (rw [decide_eq_decide]; omega)), rfl⟩

/-! sign -/
def signsL : ByteArray := ⟨#[59, 44, 61, 43, 45, 42, 40, 41]⟩
def signB : List UInt8 → List UInt8
  | [] => []
  | c :: r => if c = 46 ∧ r.head? = some 46 then [46, 46] else if isMark c then [c] else []
theorem mark_mem (c : UInt8) : isMark c = true ↔ c ∈ signsL.data.toList := by
  simp only [isMark, Bool.or_eq_true, beq_iff_eq, signsL, List.mem_cons, List.not_mem_nil, or_false]
  constructor
  · rintro (((((((h | h) | h) | h) | h) | h) | h) | h) <;> simp [h]
  · rintro (h | h | h | h | h | h | h | h) <;> simp [h]
theorem two_points (s : ByteArray) (p : Nat) (h : p + 1 < s.size) : ((s.extract p (p + 2)).toList == [46, 46]) = true ↔ (s[p] = 46 ∧ (s.data.toList.drop (p + 1)).head? = some 46) := by
  have hp : p < s.size := by omega
  have e : (s.extract p (p + 2)).toList = [s[p], s[p + 1]] := by
    rw [ByteArray.toList_eq, extract_list, List.drop_take, show p + 2 - p = 2 by omega, drop_at (getElem?_at s p hp), drop_at (getElem?_at s (p + 1) h)]
    rfl
  rw [e, beq_iff_eq, drop_at (getElem?_at s (p + 1) h)]
  simp
theorem one_extract (L : ByteArray) (k q : Nat) (h : k < L.size) (hq : q = k + 1) : L.extract k q = bs [L[k]] := by
  refine byte_ext ?_
  subst hq
  rw [extract_list, bs_list, List.drop_take, show k + 1 - k = 1 by omega, drop_at (getElem?_at L k h)]
  rfl
end Go.Proofs.YtlaodgdlkkmmeaaGreat
namespace Go.Proofs.YtlaodgdlkkmmeaaGreat

/-- A token that stands in a source at its place. -/
structure Good (S : List UInt8) (t : Tk) : Prop where
  some : S.drop t.pl ≠ []
  right : errB (S.drop t.pl) = 0
  is : t = tkB (S.drop t.pl) t.pl
theorem Good.lt {S : List UInt8} {t : Tk} (h : Good S t) : t.pl < S.length := by
  rcases Nat.lt_or_ge t.pl S.length with h1 | h1
  · exact h1
  · exact absurd (List.drop_eq_nil_of_le h1) h.some
/-- The place of the next token. -/
def nxt (S : List UInt8) (p : Nat) : Nat := p + lenB (S.drop p) + skipB (S.drop (p + lenB (S.drop p)))
theorem tokGo_ok {S : List UInt8} {p : Nat} (f : Nat) (hs : S.drop p ≠ []) (he : errB (S.drop p) = 0) : tokGo (f + 1) p (S.drop p) = (tkB (S.drop p) p :: (tokGo f (nxt S p) (S.drop (nxt S p))).1, (tokGo f (nxt S p) (S.drop (nxt S p))).2) := by
  have e1 : (S.drop p).drop (lenB (S.drop p)) = S.drop (p + lenB (S.drop p)) := by rw [List.drop_drop]
  have e2 : (S.drop p).drop (lenB (S.drop p) + skipB (S.drop (p + lenB (S.drop p)))) = S.drop (nxt S p) := by rw [List.drop_drop]; unfold nxt; rw [Nat.add_assoc]
  rw [tokGo, if_neg hs, if_neg (by simp [he])]
  simp only [e1, e2]
  rfl
theorem tokGo_err {S : List UInt8} {p : Nat} (f : Nat) (hs : S.drop p ≠ []) (he : errB (S.drop p) ≠ 0) : tokGo (f + 1) p (S.drop p) = ([], p, errB (S.drop p)) := by
  rw [tokGo, if_neg hs, if_pos he]
theorem tokGo_nil {S : List UInt8} {p : Nat} (f : Nat) (hs : S.drop p = []) : tokGo f p (S.drop p) = ([], 0, 0) := by
  rw [hs]
  cases f <;> simp [tokGo]
theorem nxt_gt {S : List UInt8} {p : Nat} (hs : S.drop p ≠ []) : p < nxt S p := by
  have := lenB_pos hs
  unfold nxt; omega
theorem nxt_le {S : List UInt8} {p : Nat} (hp : p ≤ S.length) (hs : S.drop p ≠ []) (he : errB (S.drop p) = 0) : nxt S p ≤ S.length := by
  have h1 := lenB_le hs he
  have h2 := skipB_le (S.drop (p + lenB (S.drop p)))
  rw [List.length_drop] at h1 h2
  unfold nxt; omega
theorem tok_good (S : List UInt8) : ∀ (f p : Nat), ∀ t ∈ (tokGo f p (S.drop p)).1, Good S t ∧ p ≤ t.pl
  | 0, p, t, ht => by simp [tokGo] at ht
  | f + 1, p, t, ht => by
    by_cases hs : S.drop p = []
    · rw [tokGo_nil _ hs] at ht; cases ht
    · by_cases he : errB (S.drop p) = 0
      · rw [tokGo_ok f hs he] at ht
        rcases List.mem_cons.1 ht with rfl | ht
        · exact ⟨⟨hs, he, rfl⟩, Nat.le_refl _⟩
        · have := tok_good S f _ t ht
          have := nxt_gt hs
          exact ⟨(tok_good S f _ t ht).1, by omega⟩
      · rw [tokGo_err f hs he] at ht; cases ht
theorem tok_rise (S : List UInt8) : ∀ (f p : Nat), (tokGo f p (S.drop p)).1.Pairwise fun a b => a.pl < b.pl
  | 0, p => by simp [tokGo]
  | f + 1, p => by
    by_cases hs : S.drop p = []
    · rw [tokGo_nil _ hs]; exact List.Pairwise.nil
    · by_cases he : errB (S.drop p) = 0
      · rw [tokGo_ok f hs he]
        refine List.pairwise_cons.2 ⟨fun t ht => ?_, tok_rise S f _⟩
        have h1 := (tok_good S f _ t ht).2
        have h2 := nxt_gt hs
        show p < t.pl
        omega
      · rw [tokGo_err f hs he]; exact List.Pairwise.nil
/-- What a source without a fault says. -/
theorem scan_good {S : List UInt8} (h : (scanB S).2.2 = 0) : S.length ≤ 4000 ∧ (scanB S).2.1 = 0 ∧ ∃ T, (scanB S).1 = T ++ [endTk S.length] ∧ (∀ t ∈ T, Good S t) ∧ ((scanB S).1.Pairwise fun a b => a.pl < b.pl) := by
  unfold scanB at h ⊢
  split at h
  · cases h
  · rename_i hl
    rw [if_neg hl]
    refine ⟨by omega, ?_⟩
    unfold finB at h ⊢
    split at h
    · rename_i h0
      rw [if_pos h0]
      have hg := tok_good S (S.drop (skipB S)).length (skipB S)
      have hr := tok_rise S (S.drop (skipB S)).length (skipB S)
      refine ⟨rfl, _, rfl, fun t ht => (hg t ht).1, ?_⟩
      rw [List.pairwise_append]
      refine ⟨hr, by simp, fun a ha b hb => ?_⟩
      simp only [List.mem_singleton] at hb
      subst hb
      exact (hg a ha).1.lt
    · rename_i h0
      exact absurd h h0
theorem tok_place (S : List UInt8) : ∀ (f p : Nat), p ≤ S.length → (tokGo f p (S.drop p)).2.1 ≤ S.length
  | 0, p, _ => by simp [tokGo]
  | f + 1, p, hp => by
    by_cases hs : S.drop p = []
    · rw [tokGo_nil _ hs]; exact Nat.zero_le _
    · by_cases he : errB (S.drop p) = 0
      · rw [tokGo_ok f hs he]
        exact tok_place S f _ (nxt_le hp hs he)
      · rw [tokGo_err f hs he]; exact hp
theorem scan_place (S : List UInt8) : (scanB S).2.1 ≤ S.length := by
  unfold scanB
  split
  · simp
  · unfold finB
    split
    · simp
    · exact tok_place S _ _ (skipB_le S)
theorem scan_empty {S : List UInt8} (h : (scanB S).2.2 ≠ 0) : (scanB S).1 = [] := by
  unfold scanB at h ⊢
  split
  · rfl
  · rename_i hl
    rw [if_neg hl] at h
    unfold finB at h ⊢
    split
    · rename_i h0; rw [if_pos h0] at h; exact absurd rfl h
    · rfl

/-- How a token is written. -/
def shownB (t : Tk) : List UInt8 := if t.kind = 5 then 34 :: t.text ++ [34] else t.text
theorem take_inner {r : List UInt8} (h : 34 ∈ r) : r.take ((innerB r).length + 1) = innerB r ++ [34] := by
  have h1 := head_tail_mem (c := 34) h
  have h2 : innerB r = headB 34 r := rfl
  rw [h2]
  generalize headB 34 r = a at *
  generalize tailB 34 r = b at *
  subst h1
  rw [show a ++ 34 :: b = (a ++ [34]) ++ b by simp, show a.length + 1 = (a ++ [34]).length by simp, List.take_left]
theorem err_text {r : List UInt8} (h : errB (34 :: r) = 0) : 34 ∈ r ∧ textOk r = true := by
  have hx : textOk r = true := by
    cases hx : textOk r with
    | true => rfl
    | false =>
      rw [errB, if_neg (by decide), if_neg (by decide), if_pos rfl, if_neg (by rw [hx]; decide)] at h
      cases h
  have hy := hx
  unfold textOk at hy
  simp only [Bool.and_eq_true, decide_eq_true_eq] at hy
  exact ⟨hy.1, hx⟩
/-- The kinds of tokens. -/
theorem tk_cases {s : List UInt8} {p : Nat} (hs : s ≠ []) (he : errB s = 0) :
    ((tkB s p).kind = 2 ∧ (tkB s p).text = []) ∨ ((tkB s p).kind = 3 ∧ nameB (tkB s p).text = true ∧ (tkB s p).text ≠ [] ∧ s.take (tkB s p).text.length = (tkB s p).text) ∨
    ((tkB s p).kind = 4 ∧ wordB (tkB s p).text = true ∧ (tkB s p).text ≠ [] ∧ s.take (tkB s p).text.length = (tkB s p).text) ∨
    ((tkB s p).kind = 5 ∧ s.take ((tkB s p).text.length + 2) = 34 :: (tkB s p).text ++ [34] ∧ (tkB s p).text.length + 2 ≤ s.length) ∨
    ((tkB s p).kind = 6 ∧ (tkB s p).text ≠ [] ∧ s.take (tkB s p).text.length = (tkB s p).text) := by
  cases s with
  | nil => exact absurd rfl hs
  | cons c r =>
    show (kindB (c :: r) = 2 ∧ textB (c :: r) = []) ∨ (kindB (c :: r) = 3 ∧ nameB (textB (c :: r)) = true ∧ textB (c :: r) ≠ [] ∧ (c :: r).take (textB (c :: r)).length = textB (c :: r)) ∨ (kindB (c :: r) = 4 ∧ wordB (textB (c :: r)) = true ∧ textB (c :: r) ≠ [] ∧ (c :: r).take (textB (c :: r)).length = textB (c :: r)) ∨ (kindB (c :: r) = 5 ∧ (c :: r).take ((textB (c :: r)).length + 2) = 34 :: textB (c :: r) ++ [34] ∧ (textB (c :: r)).length + 2 ≤ (c :: r).length) ∨ (kindB (c :: r) = 6 ∧ textB (c :: r) ≠ [] ∧ (c :: r).take (textB (c :: r)).length = textB (c :: r))
    cases hd : isDig c with
    | true => left; simp [kindB, textB, hd]
    | false =>
      cases hp : isPart c with
      | true =>
        have hk : kindB (c :: r) = if wordB (runB (c :: r)) then 4 else 3 := by simp [kindB, hd, hp]
        have ht : textB (c :: r) = runB (c :: r) := by simp [textB, hd, hp]
        have hne : runB (c :: r) ≠ [] := fun e => by have := run_pos (c := c) (r := r) hp; rw [e] at this; simp at this
        have he' : (wordB (runB (c :: r)) || nameB (runB (c :: r))) = true := by
          rw [errB, if_neg (by rw [hd]; decide), if_pos hp] at he
          cases hx : (wordB (runB (c :: r)) || nameB (runB (c :: r))) with
          | true => rfl
          | false => rw [if_neg (by rw [hx]; decide)] at he; cases he
        rw [hk, ht]
        cases hw : wordB (runB (c :: r)) with
        | true =>
          right; right; left
          exact ⟨rfl, rfl, hne, runB_take _⟩
        | false =>
          right; left
          rw [hw] at he'
          exact ⟨rfl, by simpa using he', hne, runB_take _⟩
      | false =>
        by_cases h34 : c = 34
        · subst h34
          obtain ⟨hm, _⟩ := err_text he
          have ht : textB (34 :: r) = innerB r := by simp [textB, hd, hp]
          right; right; right; left
          rw [ht]
          refine ⟨by simp [kindB, hd, hp], ?_, ?_⟩
          · rw [List.take_succ_cons, take_inner hm]; rfl
          · have := innerB_lt hm
            simp only [List.length_cons]; omega
        · right; right; right; right
          have hk : kindB (c :: r) = 6 := by simp [kindB, hd, hp, h34]
          cases hm : isMark c with
          | true =>
            have ht : textB (c :: r) = [c] := by simp [textB, hd, hp, h34, hm]
            rw [ht]
            exact ⟨hk, by simp, rfl⟩
          | false =>
            have ht : textB (c :: r) = [46, 46] := by simp [textB, hd, hp, h34, hm]
            rw [errB, if_neg (by rw [hd]; decide), if_neg (by rw [hp]; decide), if_neg h34, if_neg (by rw [hm]; decide)] at he
            have hpp : c = 46 ∧ r.head? = some 46 := by
              rcases Classical.em (c = 46 ∧ r.head? = some 46) with h | h
              · exact h
              · rw [if_neg h] at he; cases he
            rw [ht]
            refine ⟨hk, by simp, ?_⟩
            obtain ⟨rfl, h2⟩ := hpp
            cases r with
            | nil => cases h2
            | cons d r => simp at h2; subst h2; rfl
end Go.Proofs.YtlaodgdlkkmmeaaGreat
