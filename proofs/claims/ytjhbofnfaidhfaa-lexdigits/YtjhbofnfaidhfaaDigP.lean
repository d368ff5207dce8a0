/-
  Numbers written in digits, and what a source says that is just such a number.
-/
import Derived.Test.YtjhbofnfaidhfaaPlain2
namespace Go.Proofs.Ytjhbofnfaidhfaa

def dgB (n : Nat) : UInt8 := UInt8.ofNat (48 + n)
def digF : Nat → Nat → List UInt8
  | 0, _ => []
  | f + 1, n => if n < 10 then [dgB n] else digF f (n / 10) ++ [dgB (n % 10)]
def digN (n : Nat) : List UInt8 := digF (n + 1) n
theorem digF_eq : ∀ (f g n : Nat), n < f → n < g → digF f n = digF g n
  | 0, _, n, h, _ => by omega
  | _ + 1, 0, n, _, h => by omega
  | f + 1, g + 1, n, h1, h2 => by
    simp only [digF]
    split
    · rfl
    · rw [digF_eq f g (n / 10) (by omega) (by omega)]
theorem digN_small {n : Nat} (h : n < 10) : digN n = [dgB n] := by unfold digN; rw [digF, if_pos h]
theorem digN_more {n : Nat} (h : ¬ n < 10) : digN n = digN (n / 10) ++ [dgB (n % 10)] := by
  unfold digN
  rw [digF, if_neg h, digF_eq n (n / 10 + 1) (n / 10) (by omega) (by omega)]
theorem dgB_nat {d : Nat} (h : d < 10) : (dgB d).toNat = 48 + d := by
  unfold dgB; rw [UInt8.toNat_ofNat', Nat.mod_eq_of_lt (by omega)]
theorem dgB_dig {d : Nat} (h : d < 10) : isDig (dgB d) = true := by simp [isDig, dgB_nat h]; omega
theorem digN_all (n : Nat) : (digN n).all isDig = true := by
  induction n using Nat.strongRecOn with
  | _ n ih =>
    by_cases h : n < 10
    · rw [digN_small h]; simp [dgB_dig h]
    · rw [digN_more h, List.all_append, ih (n / 10) (by omega)]
      simp [dgB_dig (show n % 10 < 10 by omega)]
theorem digN_head (n : Nat) : ∃ c r, digN n = c :: r ∧ isDig c = true ∧ (1 ≤ n → c ≠ 48) := by
  induction n using Nat.strongRecOn with
  | _ n ih =>
    by_cases h : n < 10
    · refine ⟨dgB n, [], digN_small h, dgB_dig h, fun h1 e => ?_⟩
      have := congrArg UInt8.toNat e
      rw [dgB_nat h] at this
      have h48 : (48 : UInt8).toNat = 48 := rfl
      omega
    · obtain ⟨c, r, h1, h2, h3⟩ := ih (n / 10) (by omega)
      exact ⟨c, r ++ [dgB (n % 10)], by rw [digN_more h, h1]; rfl, h2, fun _ => h3 (by omega)⟩
theorem digN_len : ∀ (k n : Nat), n < 10 ^ (k + 1) → (digN n).length ≤ k + 1
  | 0, n, h => by rw [digN_small (by simpa using h)]; simp
  | k + 1, n, h => by
    by_cases h10 : n < 10
    · rw [digN_small h10]; simp
    · rw [digN_more h10, List.length_append]
      have : n / 10 < 10 ^ (k + 1) := by
        rw [Nat.div_lt_iff_lt_mul (by decide)]
        rw [Nat.pow_succ] at h; exact h
      have := digN_len k (n / 10) this
      simp; omega
theorem numGo_append : ∀ (a b : List UInt8) (m : Nat), numGo m (a ++ b) = (numGo m a).bind fun k => numGo k b
  | [], b, m => by simp [numGo]
  | c :: r, b, m => by
    simp only [List.cons_append, numGo]
    split
    · split
      · rfl
      · exact numGo_append r b _
    · rfl
theorem numGo_digN (n : Nat) : numGo 0 (digN n) = if n ≤ maxC then some n else none := by
  induction n using Nat.strongRecOn with
  | _ n ih =>
    by_cases h : n < 10
    · rw [digN_small h, numGo, if_pos (dgB_dig h), dgB_nat h, if_neg (by unfold maxC; omega), numGo, if_pos (by unfold maxC; omega)]
      congr 1; omega
    · have hd : n % 10 < 10 := by omega
      rw [digN_more h, numGo_append, ih (n / 10) (by omega)]
      by_cases hq : n / 10 ≤ maxC
      · rw [if_pos hq]
        simp only [Option.bind_some, numGo, dgB_dig hd, dgB_nat hd, if_true]
        have e : 10 * (n / 10) + (48 + n % 10 - 48) = n := by omega
        rw [e]
        by_cases hn : n ≤ maxC
        · rw [if_pos hn, if_neg (by omega)]
        · rw [if_neg hn, if_pos (by omega)]
      · rw [if_neg hq, if_neg (by omega)]; rfl
theorem run_all {S : List UInt8} (h : S.all isDig = true) : runB S = S := by
  induction S with
  | nil => rfl
  | cons c r ih =>
    simp only [List.all_cons, Bool.and_eq_true] at h
    unfold runB at ih ⊢
    rw [List.takeWhile_cons, if_pos (dig_part h.1), ih h.2]
theorem digN_two {n : Nat} (h : n < 10) : (digN n).length = 1 := by rw [digN_small h]; rfl
theorem numO_digN (n : Nat) : numO (digN n) = if n ≤ maxC then some n else none := by
  unfold numO
  rw [if_neg, numGo_digN]
  rintro ⟨h1, h2⟩
  obtain ⟨c, r, he, _, h3⟩ := digN_head n
  rw [he] at h2
  by_cases hn : n < 10
  · rw [digN_two hn] at h1; omega
  · exact h3 (by omega) (by simpa using h2)
theorem dig_noskip {c : UInt8} (h : isDig c = true) : c ≠ 10 ∧ isBl c = false ∧ c ≠ 35 := by
  refine ⟨?_, ?_, ?_⟩
  · rintro rfl; exact absurd h (by decide)
  · cases hb : isBl c with
    | false => rfl
    | true =>
      simp only [isBl, Bool.or_eq_true, beq_iff_eq] at hb
      rcases hb with (rfl | rfl) | rfl <;> exact absurd h (by decide)
  · rintro rfl; exact absurd h (by decide)
theorem skip_dig {c : UInt8} {r : List UInt8} (h : isDig c = true) : skipB (c :: r) = 0 := by
  obtain ⟨h1, h2, h3⟩ := dig_noskip h
  unfold skipB; rw [skipGo, if_neg h1, if_neg (by simp [h2]), if_neg h3]
/-- A source that is one number. -/
theorem tok_number {c : UInt8} {r : List UInt8} (p : Nat) (hall : (c :: r).all isDig = true) :
    tokB p (c :: r) = match numO (c :: r) with
      | some n => ([⟨2, n, [], p⟩], 0, 0)
      | none => ([], p, 61) := by
  have hc : isDig c = true := by simp only [List.all_cons, Bool.and_eq_true] at hall; exact hall.1
  have hrun := run_all hall
  have herr : errB (c :: r) = if (numO (c :: r)).isSome then 0 else 61 := by
    rw [errB, if_pos hc, hrun]
  cases h : numO (c :: r) with
  | none =>
    rw [h] at herr
    have he : errB (c :: r) = 61 := by simpa using herr
    rw [tokB_err (by simp) (by rw [he]; decide), he]
  | some n =>
    rw [h] at herr
    have he : errB (c :: r) = 0 := by simpa using herr
    have hl : lenB (c :: r) = (c :: r).length := by rw [lenB, if_pos (dig_part hc), hrun]
    rw [tokB_ok (by simp) he, hl, List.drop_length]
    have hd : (c :: r).drop ((c :: r).length + skipB []) = [] := List.drop_eq_nil_of_le (by omega)
    rw [hd, tokB_nil]
    simp only [tkB, kindB, numB, textB, hc, hrun, h, if_true]
    rfl
theorem digN_short {n : Nat} (h : n < 10 ^ 20) : (digN n).length ≤ 20 := digN_len 19 n h
theorem scan_digN {n : Nat} (h : n < 10 ^ 20) : scanB (digN n) = if n ≤ maxC then ([⟨2, n, [], 0⟩, endTk (digN n).length], 0, 0) else ([], 0, 61) := by
  have hs := digN_short h
  have hn := numO_digN n
  have hall := digN_all n
  obtain ⟨c, r, he, hc, _⟩ := digN_head n
  unfold scanB
  rw [if_neg (by omega)]
  rw [he] at hn hall ⊢
  rw [skip_dig hc, List.drop_zero, tok_number 0 hall, hn]
  by_cases hm : n ≤ maxC
  · rw [if_pos hm, if_pos hm]; simp [finB]
  · rw [if_neg hm, if_neg hm]; simp [finB]
theorem scan_nought {n : Nat} (h : n < 10 ^ 20) : scanB (32 :: 48 :: digN n) = ([], 1, 61) := by
  have hs := digN_short h
  have hall := digN_all n
  obtain ⟨c, r, he, hc, _⟩ := digN_head n
  have hk : skipB (32 :: 48 :: digN n) = 1 := by
    have h0 : skipGo false (48 :: digN n) = 0 := skip_dig (by decide)
    unfold skipB
    rw [skipGo, if_neg (by decide), if_pos (by decide), h0]
  unfold scanB
  rw [if_neg (by simp only [List.length_cons]; omega), hk]
  have hno : numO (48 :: digN n) = none := by
    unfold numO; rw [if_pos ⟨by rw [he]; simp, rfl⟩]
  have h48 : (48 :: digN n).all isDig = true := by
    rw [List.all_cons, hall]; decide
  show finB _ (tokB 1 (48 :: digN n)) = _
  rw [tok_number 1 h48, hno]
  rfl
end Go.Proofs.Ytjhbofnfaidhfaa
