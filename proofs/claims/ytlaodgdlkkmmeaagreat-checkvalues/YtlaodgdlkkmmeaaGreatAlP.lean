/-
  Plain facts on bytes: where a byte first stands among bytes, what an alphabet is, the number of a letter.
-/
import Derived.Lib.Bytealg
import GoSem.Claim
namespace Go.Proofs.YtlaodgdlkkmmeaaGreat.Al

theorem indexByte_none (c : UInt8) : ∀ (l : List UInt8), c ∉ l → Lib.indexByte l c = -1
  | [], _ => rfl
  | b :: l, h => by
    have hb : (b == c) = false := by
      rw [beq_eq_false_iff_ne]; intro e; exact h (by rw [e]; exact List.mem_cons_self ..)
    have ih := indexByte_none c l (fun hm => h (List.mem_cons_of_mem _ hm))
    unfold Lib.indexByte
    simp [hb, ih]

theorem indexByte_at (c : UInt8) : ∀ (l : List UInt8) (k : Nat), c ∉ l.take k → l[k]? = some c → Lib.indexByte l c = (k : Int)
  | [], _, _, h => by simp at h
  | b :: l, 0, _, h => by
    have hb : (b == c) = true := by simpa using h
    unfold Lib.indexByte
    simp [hb]
  | b :: l, k + 1, hn, h => by
    have hb : (b == c) = false := by
      rw [beq_eq_false_iff_ne]; intro e; exact hn (by simp [e])
    have ih := indexByte_at c l k (fun hm => hn (by rw [List.take_succ_cons]; exact List.mem_cons_of_mem _ hm)) (by simpa using h)
    unfold Lib.indexByte
    have hne : ((k : Int) == -1) = false := by rw [beq_eq_false_iff_ne]; omega
    simp [hb, ih, hne]

/-- Where it is told, it stands; and it stands within. -/
theorem indexByte_lt (c : UInt8) : ∀ (l : List UInt8), Lib.indexByte l c < l.length
  | [] => by simp [Lib.indexByte]
  | b :: l => by
    have ih := indexByte_lt c l
    unfold Lib.indexByte
    simp only [List.length_cons]
    split
    · omega
    · split <;> omega

theorem indexByte_mem (c : UInt8) (l : List UInt8) : (0 ≤ Lib.indexByte l c) ↔ c ∈ l := by
  constructor
  · intro h
    by_cases hc : c ∈ l
    · exact hc
    · rw [indexByte_none c l hc] at h; omega
  · intro h
    obtain ⟨k, hk, hn⟩ : ∃ k, l[k]? = some c ∧ c ∉ l.take k := by
      induction l with
      | nil => cases h
      | cons b l ih =>
        by_cases hb : b = c
        · exact ⟨0, by simp [hb], by simp⟩
        · have hm : c ∈ l := by
            rcases List.mem_cons.1 h with e | e
            · exact absurd e.symm hb
            · exact e
          obtain ⟨k, hk, hn⟩ := ih hm
          refine ⟨k + 1, by simpa using hk, ?_⟩
          rw [List.take_succ_cons]
          intro hc
          rcases List.mem_cons.1 hc with e | e
          · exact hb e.symm
          · exact hn e
    rw [indexByte_at c l k hn hk]
    omega

/-- One place of a text is as an alphabet's must be. -/
def okAt (l : List UInt8) (i : Nat) : Bool := decide (65 ≤ ((l.getD i 0).toNat : Int)) && decide (((l.getD i 0).toNat : Int) ≤ 90) && decide (Lib.indexByte (l.take i) (l.getD i 0) < 0)
def okTo (l : List UInt8) (k : Nat) : Bool := (List.range k).all (okAt l)
/-- An alphabet. -/
def rightB (l : List UInt8) : Bool := decide (2 ≤ l.length) && decide (l.length ≤ 20) && okTo l l.length

theorem okTo_succ (l : List UInt8) (k : Nat) : okTo l (k + 1) = (okTo l k && okAt l k) := by
  simp [okTo, List.range_succ]
theorem okTo_false (l : List UInt8) (k n : Nat) (h : k < n) (hk : okAt l k = false) : okTo l n = false := by
  rw [okTo, List.all_eq_false]
  exact ⟨k, by simpa using h, by simp [hk]⟩
theorem rightB_short (l : List UInt8) (h : l.length < 2) : rightB l = false := by
  simp [rightB]; omega
theorem rightB_long (l : List UInt8) (h : 20 < l.length) : rightB l = false := by
  simp [rightB]; omega
theorem rightB_bad (l : List UInt8) (k : Nat) (h : k < l.length) (hk : okAt l k = false) : rightB l = false := by
  simp [rightB, okTo_false l k l.length h hk]
theorem rightB_good (l : List UInt8) (h2 : 2 ≤ l.length) (h20 : l.length ≤ 20) (hk : okTo l l.length = true) : rightB l = true := by
  simp [rightB, h2, h20, hk]

theorem rightB_len (l : List UInt8) (h : rightB l = true) : 2 ≤ l.length ∧ l.length ≤ 20 := by
  simp [rightB] at h; exact h.1
theorem rightB_cap (l : List UInt8) (h : rightB l = true) (c : UInt8) (hc : c ∈ l) : 65 ≤ c.toNat ∧ c.toNat ≤ 90 := by
  obtain ⟨k, hk, e⟩ := List.getElem_of_mem hc
  have hall : okTo l l.length = true := by simp [rightB] at h; exact h.2
  rw [okTo, List.all_eq_true] at hall
  have := hall k (by simpa using hk)
  have eg : l.getD k 0 = c := by rw [← e]; simp [List.getD, List.getElem?_eq_getElem hk]
  simp only [okAt, eg, Bool.and_eq_true, decide_eq_true_eq] at this
  omega

/-- alpha.capital. -/
def capOf (c : Int) : Int := if 97 ≤ c ∧ c ≤ 122 then c - 32 else c
def isCap (c : Int) : Bool := decide (65 ≤ c) && decide (c ≤ 90)

theorem capOf_range (c : Int) (h0 : 0 ≤ c) (h1 : c ≤ 255) : 0 ≤ capOf c ∧ capOf c ≤ 255 := by
  unfold capOf; split <;> omega
/-- The number of a byte among letters. -/
def codeOf (l : List UInt8) (c : Int) : Int := Lib.indexByte l (capOf c).toNat.toUInt8
/-- alpha.Code. -/
def codeB (l : List UInt8) (c : Int) : Int := if rightB l = true then codeOf l c else -1

end Go.Proofs.YtlaodgdlkkmmeaaGreat.Al
