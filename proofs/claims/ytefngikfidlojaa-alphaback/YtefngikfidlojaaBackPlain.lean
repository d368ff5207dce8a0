/-
  Plain facts, with no program in sight: numbers that are told as letters are read as these; a text that is read is told as that, in capitals; a text that is refused is taken up to the place told.
-/
import Derived.Test.YtefngikfidlojaaJoinPlain
import Derived.Test.YtefngikfidlojaaSmall
namespace Go.Proofs.Ytefngikfidlojaa

theorem takeWhile_mem {α : Type} {p : α → Bool} {x : α} : ∀ {s : List α}, x ∈ s.takeWhile p → p x = true
  | [], h => by simp at h
  | b :: s, h => by
    by_cases hb : p b = true
    · simp only [List.takeWhile_cons, hb, if_true] at h
      rcases List.mem_cons.1 h with rfl | h
      · exact hb
      · exact takeWhile_mem h
    · simp [hb] at h
theorem decB_ok {l : List UInt8} {zs : List Int} {t : List UInt8} (h : decB l zs = (t, 0)) : rightB l = true ∧ zs.length ≤ 65536 ∧ t = decText l zs ∧ ∀ n ∈ zs, 0 ≤ n ∧ n < (l.length : Int) := by
  unfold decB at h
  split at h
  · simp at h
  · split at h
    · simp at h
    · split at h
      · rename_i h1 h2 h3
        simp at h
        refine ⟨by simpa using h1, by omega, h.symm, fun n hn => ?_⟩
        rw [List.all_eq_true] at h3
        have := h3 n hn
        simpa [isNum] using this
      · simp at h

theorem rightB_at {l : List UInt8} (h : rightB l = true) (k : Nat) (hk : k < l.length) : okAt l k = true := by
  have hall : okTo l l.length = true := by simp [rightB] at h; exact h.2
  rw [okTo, List.all_eq_true] at hall
  exact hall k (by simpa using hk)
theorem letter_code {l : List UInt8} (h : rightB l = true) (k : Nat) (hk : k < l.length) : codeOf l ((l.getD k 0).toNat : Int) = (k : Int) := by
  have ho := rightB_at h k hk
  simp only [okAt, Bool.and_eq_true, decide_eq_true_eq] at ho
  obtain ⟨⟨h1, h2⟩, h3⟩ := ho
  have ec : capOf ((l.getD k 0).toNat : Int) = ((l.getD k 0).toNat : Int) := by unfold capOf; rw [if_neg (by omega)]
  unfold codeOf
  rw [ec]
  have eb : ((l.getD k 0).toNat : Int).toNat.toUInt8 = l.getD k 0 := byte_back _
  rw [eb]
  refine indexByte_at _ l k ?_ (by simp [List.getD, List.getElem?_eq_getElem hk])
  intro hm
  have := (indexByte_mem (l.getD k 0) (l.take k)).2 hm
  omega
theorem small_code (l : List UInt8) (j : Nat) (c : UInt8) : codeOf l ((smallAt j c).toNat : Int) = codeOf l (c.toNat : Int) := by
  by_cases h : j % 2 = 0 ∧ 65 ≤ c.toNat ∧ c.toNat ≤ 90
  · have hv := small_val c h.2.1 h.2.2 j h.1
    unfold codeOf
    have e1 : capOf ((smallAt j c).toNat : Int) = (c.toNat : Int) := by rw [hv]; unfold capOf; rw [if_pos (by omega)]; omega
    have e2 : capOf (c.toNat : Int) = (c.toNat : Int) := by unfold capOf; rw [if_neg (by omega)]
    rw [e1, e2]
  · unfold smallAt; rw [if_neg h]
theorem encB_codes {l s : List UInt8} {zs : List Int} (hr : rightB l = true) (hs : s.length ≤ 65536) (hl : s.length = zs.length) (hz : ∀ n ∈ zs, 0 ≤ n) (hc : ∀ i, i < s.length → codeOf l ((s.getD i 0).toNat : Int) = zs.getD i 0) : encB l s = (zs, 0, 0) := by
  have hmap : (s.map fun c => codeOf l (c.toNat : Int)) = zs := by
    apply List.ext_getElem
    · simpa using hl
    · intro i h1 h2
      have hi : i < s.length := by simpa using h1
      have := hc i hi
      simpa [List.getD, List.getElem?_eq_getElem hi, List.getElem?_eq_getElem h2] using this
  rw [encB_all hs hr, hmap]
  intro j x hj hx
  have hjz : j < zs.length := by omega
  have h1 := hc j hj
  have h2 : s.getD j 0 = x := by simp [List.getD, hx]
  rw [h2] at h1
  rw [h1]
  have : zs.getD j 0 ∈ zs := by
    have e : zs.getD j 0 = zs[j] := by simp [List.getD, List.getElem?_eq_getElem hjz]
    rw [e]; exact List.getElem_mem hjz
  exact hz _ this
theorem decText_code {l : List UInt8} {zs : List Int} (hr : rightB l = true) (hz : ∀ n ∈ zs, 0 ≤ n ∧ n < (l.length : Int)) (i : Nat) (hi : i < (decText l zs).length) : codeOf l (((decText l zs).getD i 0).toNat : Int) = zs.getD i 0 := by
  have hiz : i < zs.length := by simpa [decText] using hi
  have e1 : zs.getD i 0 = zs[i] := by simp [List.getD, List.getElem?_eq_getElem hiz]
  have hm := hz zs[i] (List.getElem_mem hiz)
  have e2 : (decText l zs).getD i 0 = l.getD (zs[i]).toNat 0 := by
    rw [List.getD, List.getElem?_eq_getElem hi, Option.getD_some]
    simp [decText]
  rw [e2, e1, letter_code hr _ (by omega)]
  omega
theorem encB_dec {l : List UInt8} {zs : List Int} {t : List UInt8} (h : decB l zs = (t, 0)) : encB l t = (zs, 0, 0) := by
  obtain ⟨hr, hs, rfl, hz⟩ := decB_ok h
  exact encB_codes hr (by rw [decText_length]; exact hs) (decText_length l zs) (fun n hn => (hz n hn).1) (decText_code hr hz)
theorem encB_small {l : List UInt8} {zs : List Int} {t : List UInt8} (h : decB l zs = (t, 0)) : encB l (smallB t) = (zs, 0, 0) := by
  obtain ⟨hr, hs, rfl, hz⟩ := decB_ok h
  refine encB_codes hr (by rw [smallB_length, decText_length]; exact hs) (by rw [smallB_length, decText_length]) (fun n hn => (hz n hn).1) ?_
  intro i hi
  have hi' : i < (decText l zs).length := by simpa [smallB_length] using hi
  have e : (smallB (decText l zs)).getD i 0 = smallAt i ((decText l zs).getD i 0) := by
    rw [List.getD, List.getElem?_eq_getElem hi, Option.getD_some]
    simp [smallB]
  rw [e, small_code]
  exact decText_code hr hz i hi'

theorem indexByte_get (c : UInt8) (l : List UInt8) (h : 0 ≤ Lib.indexByte l c) : l.getD (Lib.indexByte l c).toNat 0 = c := by
  induction l with
  | nil => simp [Lib.indexByte] at h
  | cons b l ih =>
    unfold Lib.indexByte at h ⊢
    by_cases hb : (b == c) = true
    · simp only [hb, if_true]
      simpa using hb
    · have hb' : (b == c) = false := by simpa using hb
      simp only [hb', Bool.false_eq_true, if_false] at h ⊢
      by_cases hm : (Lib.indexByte l c == -1) = true
      · simp only [hm, if_true] at h
        omega
      · simp only [hm] at h ⊢
        have hne : Lib.indexByte l c ≠ -1 := by simpa using hm
        have hge := Lib.indexByte_ge l c
        have h0 : 0 ≤ Lib.indexByte l c := by omega
        have e : (Lib.indexByte l c + 1).toNat = (Lib.indexByte l c).toNat + 1 := by omega
        simp only [Bool.false_eq_true, if_false]
        rw [e, List.getD_cons_succ]
        exact ih h0
theorem code_letter {l : List UInt8} (c : UInt8) (h : 0 ≤ codeOf l (c.toNat : Int)) : l.getD (codeOf l (c.toNat : Int)).toNat 0 = capU c := by
  unfold codeOf at h ⊢
  exact indexByte_get _ l h
theorem encB_good {l s : List UInt8} {m : List Int} {p : Nat} (h : encB l s = (m, p, 0)) : ∀ c ∈ s, 0 ≤ codeOf l (c.toNat : Int) := by
  obtain ⟨_, _, hb, _, _⟩ := encB_ok h
  intro c hc
  have hall : s.takeWhile (fun c => decide (0 ≤ codeOf l (c.toNat : Int))) = s := by
    have hp := List.takeWhile_prefix (l := s) (fun c => decide (0 ≤ codeOf l (c.toNat : Int)))
    exact hp.eq_of_length hb
  rw [← hall] at hc
  have := takeWhile_mem hc
  simpa using this
theorem decB_enc {l s : List UInt8} {m : List Int} {p : Nat} (h : encB l s = (m, p, 0)) : decB l m = (s.map capU, 0) := by
  have hg := encB_good h
  obtain ⟨hr, hs, _, rfl, _⟩ := encB_ok h
  have hd := decB_all (zs := s.map fun c => codeOf l (c.toNat : Int)) hr (by simpa using hs) (fun j hj => by
    have hj' : j < s.length := by simpa using hj
    have e : (s.map fun c => codeOf l (c.toNat : Int)).getD j 0 = codeOf l ((s[j]).toNat : Int) := by simp [List.getD, List.getElem?_eq_getElem hj']
    rw [e]
    exact ⟨hg _ (List.getElem_mem hj'), by unfold codeOf; exact indexByte_lt _ _⟩)
  rw [hd]
  congr 1
  unfold decText
  rw [List.map_map]
  apply List.map_congr_left
  intro c hc
  exact code_letter c (hg c hc)
theorem takeWhile_ge {α : Type} (p : α → Bool) : ∀ (s : List α) (k : Nat), k ≤ s.length → (∀ j x, j < k → s[j]? = some x → p x = true) → k ≤ (s.takeWhile p).length
  | [], k, h, _ => by simpa using h
  | b :: s, 0, _, _ => Nat.zero_le _
  | b :: s, k + 1, h, hall => by
    have hb : p b = true := hall 0 b (by omega) rfl
    have ih := takeWhile_ge p s k (by simpa using h) (fun j x hj hx => hall (j + 1) x (by omega) (by simpa using hx))
    simp [hb, ih]
/-- What is a letter of an alphabet is one. -/
theorem code_capRef {l : List UInt8} (hr : rightB l = true) (c : UInt8) (h : 0 ≤ codeOf l (c.toNat : Int)) : ¬ capRef (c.toNat : Int) = 0 := by
  intro hz
  have hb := capRef_zero_bad c hz
  have hm : capU c ∈ l := (indexByte_mem (capU c) l).1 h
  have := rightB_cap l hr _ hm
  omega
theorem encB_fault {l s : List UInt8} {ns : List Int} {k : Nat} {er : Int} (h : encB l s = (ns, k, er)) (hr : rightB l = true) (h0 : ¬ er = 0) :
    (er = 2 ∧ 65536 < s.length ∧ k = 0) ∨ (er = 11 ∧ k < s.length ∧ (∃ ms, encB l (s.take k) = (ms, 0, 0)) ∧ encB l (s.take (k + 1)) = ([], k, 11)) := by
  unfold encB at h
  rw [hr, if_neg (by decide)] at h
  split at h
  · rename_i h1
    cases h
    exact .inl ⟨rfl, h1, rfl⟩
  · split at h
    · rename_i h1 h2
      cases h
      refine .inr ⟨rfl, h2, ?_, ?_⟩
      · refine ⟨_, encB_all (by rw [List.length_take]; omega) hr ?_⟩
        intro j x hj hx
        have hj' : j < badAt l s := by rw [List.length_take] at hj; omega
        have hmem : x ∈ s.takeWhile (fun c => decide (0 ≤ codeOf l (c.toNat : Int))) := by
          have hp := List.takeWhile_prefix (l := s) (fun c => decide (0 ≤ codeOf l (c.toNat : Int)))
          have hte : s.take (badAt l s) = s.takeWhile (fun c => decide (0 ≤ codeOf l (c.toNat : Int))) := (List.prefix_iff_eq_take.1 hp).symm
          rw [← hte]
          exact List.mem_of_getElem? hx
        have := takeWhile_mem hmem
        simpa using this
      · have hlt : badAt l s < s.length := h2
        have hte : s.take (badAt l s) = s.takeWhile (fun c => decide (0 ≤ codeOf l (c.toNat : Int))) := by
          have hp := List.takeWhile_prefix (l := s) (fun c => decide (0 ≤ codeOf l (c.toNat : Int)))
          exact (List.prefix_iff_eq_take.1 hp).symm
        have hbad : ¬ 0 ≤ codeOf l ((s[badAt l s]).toNat : Int) := by
          intro hp
          have hall : ∀ j x, j < badAt l s + 1 → s[j]? = some x → (fun c : UInt8 => decide (0 ≤ codeOf l (c.toNat : Int))) x = true := by
            intro j x hj hx
            by_cases e : j = badAt l s
            · subst e
              rw [List.getElem?_eq_getElem hlt] at hx
              cases hx
              simpa using hp
            · have hmem : x ∈ s.takeWhile (fun c => decide (0 ≤ codeOf l (c.toNat : Int))) := by
                rw [← hte]
                refine List.mem_of_getElem? (i := j) ?_
                rw [List.getElem?_take, if_pos (by omega)]
                exact hx
              exact takeWhile_mem (p := fun c : UInt8 => decide (0 ≤ codeOf l (c.toNat : Int))) hmem
          have hlen : badAt l s + 1 ≤ badAt l s := by
            have h3 := takeWhile_ge (fun c : UInt8 => decide (0 ≤ codeOf l (c.toNat : Int))) s (badAt l s + 1) (by omega) hall
            exact h3
          omega
        have hb : badAt l (s.take (badAt l s + 1)) = badAt l s := by
          refine takeWhile_stop _ _ (badAt l s) (s[badAt l s]) ?_ ?_ (by simpa using hbad)
          · intro j x hj hx
            rw [List.getElem?_take, if_pos (by omega)] at hx
            have hmem : x ∈ s.takeWhile (fun c => decide (0 ≤ codeOf l (c.toNat : Int))) := by
              rw [← hte]
              refine List.mem_of_getElem? (i := j) ?_
              rw [List.getElem?_take, if_pos (by omega)]
              exact hx
            exact takeWhile_mem (p := fun c : UInt8 => decide (0 ≤ codeOf l (c.toNat : Int))) hmem
          · rw [List.getElem?_take, if_pos (by omega), List.getElem?_eq_getElem hlt]
        have hl2 : (s.take (badAt l s + 1)).length = badAt l s + 1 := by rw [List.length_take]; omega
        unfold encB
        rw [hr, if_neg (by decide), if_neg (by omega), hb, if_pos (by omega)]
    · cases h
      exact absurd rfl h0
end Go.Proofs.Ytefngikfidlojaa
