/-
  The walk of the document's own Parse.
-/
import Derived.Test.YtdhphipdpjhhbaaGreatDoorRefRight
import Derived.Test.YtdhphipdpjhhbaaGreatDoorSplit
namespace Go.Proofs.YtdhphipdpjhhbaaGreatDoor
open Go.RowKit

/-- A number of so many digits, the first one of which is no zero. -/
def DigN (m n : Nat) : Prop := (m = 0 ∧ n = 0) ∨ (m = 1 ∧ 1 ≤ n ∧ n ≤ 9) ∨ (m = 2 ∧ 10 ≤ n ∧ n ≤ 99) ∨ (m = 3 ∧ 100 ≤ n ∧ n ≤ 999) ∨ (m = 4 ∧ 1000 ≤ n ∧ n ≤ 9999) ∨ (m = 5 ∧ 10000 ≤ n ∧ n ≤ 99999) ∨ (m = 6 ∧ 100000 ≤ n ∧ n ≤ 999999) ∨ (m = 7 ∧ 1000000 ≤ n ∧ n ≤ 9999999)
theorem DigN.more {m n d : Nat} (h : DigN m n) (hm : m ≤ 6) (hd : d ≤ 9) (h0 : m = 0 → 1 ≤ d) : DigN (m + 1) (10 * n + d) := by
  rcases h with h | h | h | h | h | h | h | h
  · exact .inr (.inl ⟨by omega, by omega, by omega⟩)
  · exact .inr (.inr (.inl ⟨by omega, by omega, by omega⟩))
  · exact .inr (.inr (.inr (.inl ⟨by omega, by omega, by omega⟩)))
  · exact .inr (.inr (.inr (.inr (.inl ⟨by omega, by omega, by omega⟩))))
  · exact .inr (.inr (.inr (.inr (.inr (.inl ⟨by omega, by omega, by omega⟩)))))
  · exact .inr (.inr (.inr (.inr (.inr (.inr (.inl ⟨by omega, by omega, by omega⟩))))))
  · exact .inr (.inr (.inr (.inr (.inr (.inr (.inr (⟨by omega, by omega, by omega⟩)))))))
  · omega
theorem DigN.zero {m n : Nat} (h : DigN m n) : n = 0 ↔ m = 0 := by unfold DigN at h; omega
theorem DigN.small {m n : Nat} (h : DigN m n) : n ≤ 9999999 := by unfold DigN at h; omega
theorem DigN.great {m n : Nat} (h : DigN m n) (hm : 6 < m) : 131072 < n := by unfold DigN at h; omega

set_option maxRecDepth 20000 in
set_option maxHeartbeats 4000000 in
theorem refParse_calls (s : ByteArray) (w : World) (hs : s.size ≤ 1048576) :
    Calls Tryz.prog 35 #[.string s] w fun e w' => RunsPost (parseA s.data.toList) w e w' := by
  by_cases hst : s = ⟨#[42]⟩
  · have HE : Hid (RunsPost (parseA s.data.toList) w (.returned (.tuple #[.slice none 0 0, .int .i64 0])) w) := runs_none (by rw [hst]; rfl) (Below.refl _ _)
    have hd : (s.toList == [42]) = true := by rw [hst, ByteArray.toList_eq]; rfl
    clear hst
    generalize s.data.toList = S at *
    go_enter Tryz.func35, Tryz.ntmps35
    go_wp2
    go_ret2
    exact HE.out
  have HA : Hid (parseA s.data.toList = finA (tokGo [] 0 s.data.toList)) := parseA_not hst
  have hd : (s.toList == [42]) = false := by
    simp only [beq_eq_false_iff_ne, ne_eq, ByteArray.toList_eq]
    exact fun e => hst (byte_ext (by rw [e]))
  obtain ⟨i0, hi, hz0, hz1, hz2⟩ := info_parts info29
  clear hst
  go_enter Tryz.func35, Tryz.ntmps35
  go_wp2
  go_loopw [4, 5, 6, 7] (fun v nn fr i wr => ∃ (k n f : Nat) (l : List Rn), k ≤ s.size ∧ i = .int .i64 k ∧ nn = .int .i64 n ∧ fr = .int .i64 f ∧ f ≤ k ∧ DigN (k - f) n ∧ l.length ≤ k ∧ Hid (tokGo l n (s.data.toList.drop k) = tokGo [] 0 s.data.toList) ∧ Hid (∀ r ∈ l, 0 ≤ r.2 ∧ r.2 ≤ 9999999) ∧ wr.ownsRow w.heap.size 37 2 v l.length (rowCells l) ∧ Below w.heap.size w wr) (fun _ _ _ i _ => s.size - (intOf i).toNat)
  case atStart => exact ⟨0, 0, 0, [], Nat.zero_le _, rfl, rfl, rfl, Nat.le_refl _, .inl ⟨rfl, rfl⟩, by simp, rfl, (fun _ h => by cases h), World.ownsRow_nil _ _ _ _, Below.refl _ _⟩
  case round =>
    obtain ⟨k, n, f, l, hk, rfl, rfl, rfl, hfk, hdn, hll, HT, HF, hown, hbw⟩ := hrel
    obtain ⟨ao, cap, rfl⟩ := owned_shape hown
    have HDN : Hid (DigN (k - f) n) := hdn
    have hn := hdn.small
    clear hdn
    have HO : Hid (wr.ownsRow w.heap.size 37 2 (.slice ao l.length cap) l.length (rowCells l)) := hown
    have HB : Hid (Below w.heap.size w wr) := hbw
    have hwb := hbw.size
    clear hown hbw
    by_cases hp : k < s.size
    · have HG : Hid (s.data.toList[k]? = some s[k]) := getElem?_at s k hp
      have hdk : decide ((k : Int) < (s.size : Int)) = true := by simp; omega
      have HD : Hid (s.data.toList.drop k = s[k] :: s.data.toList.drop (k + 1)) := drop_at HG.out
      have HEnd : Hid (finA (tokGo l n (s[k] :: s.data.toList.drop (k + 1))) = ([], 40) → RunsPost (parseA s.data.toList) w (.returned (.tuple #[.slice none 0 0, .int .i64 40])) wr) := fun h => runs_none (by rw [HA.out, ← HT.out, HD.out]; exact h) HB.out
      have hu8 := UInt8.toNat_lt s[k]
      by_cases hdig : isDig s[k] = true
      · have hdg := (isDig_iff _).1 hdig
        obtain ⟨hg1, hg2⟩ := hdg
        have h1 : decide ((48 : Int) ≤ (s[k].toNat : Int)) = true := by simp; omega
        have h2 : decide ((s[k].toNat : Int) ≤ 57) = true := by simp; omega
        by_cases h0 : n = 0 ∧ s[k] = 48
        · have HE : Hid (RunsPost (parseA s.data.toList) w (.returned (.tuple #[.slice none 0 0, .int .i64 40])) wr) := HEnd.out (by rw [tok_zero hdig h0]; rfl)
          have h48 := (eq48 _).1 h0.2
          have h3 : ((s[k].toNat : Int) == 48) = true := by rw [h48]; rfl
          have hkf : k - f = 0 := HDN.out.zero.1 h0.1
          have h4 : ((k : Int) == (f : Int)) = true := by rw [beq_iff_eq]; omega
          clear hdig h0 HEnd HD HG HT HF h48 hkf
          go_wp2
          go_ret2
          exact HE.out
        · have HS : Hid (tokGo l (10 * n + (s[k].toNat - 48)) (s.data.toList.drop (k + 1)) = tokGo [] 0 s.data.toList) := by show _ = _; rw [← HT.out, HD.out, tok_dig hdig h0]
          have h34 : ((s[k].toNat : Int) == 48) = false ∨ (((s[k].toNat : Int) == 48) = true ∧ ((k : Int) == (f : Int)) = false) := by
            by_cases hz : s[k] = 48
            · refine .inr ⟨by rw [(eq48 _).1 hz]; rfl, ?_⟩
              have : ¬ k - f = 0 := fun e => h0 ⟨HDN.out.zero.2 e, hz⟩
              rw [beq_eq_false_iff_ne]; omega
            · exact .inl (nat_byte hz)
          by_cases h6 : 6 < k - f
          · have HE : Hid (RunsPost (parseA s.data.toList) w (.returned (.tuple #[.slice none 0 0, .int .i64 40])) wr) := runs_none (by rw [HA.out, ← HS.out]; exact tok_great _ _ _ (by have := HDN.out.great h6; omega)) HB.out
            have h5 : decide ((6 : Int) < (k : Int) - (f : Int)) = true := by simp; omega
            clear hdig h0 HEnd HD HG HT HF HS HDN
            rcases h34 with h3 | ⟨h3, h4⟩ <;> (
              go_wp2
              go_ret2
              exact HE.out)
          · have h5 : decide ((6 : Int) < (k : Int) - (f : Int)) = false := by simp; omega
            have HDN2 : Hid (DigN (k + 1 - f) (10 * n + (s[k].toNat - 48))) := by
              have h := HDN.out.more (d := s[k].toNat - 48) (by omega) (by omega) (fun e => by
                have : s[k].toNat ≠ 48 := fun e' => h0 ⟨HDN.out.zero.2 e, (eq48 _).2 e'⟩
                omega)
              rw [show k + 1 - f = k - f + 1 by omega]
              exact h
            clear hdig h0 HEnd HD HG HT HDN HA
            rcases h34 with h3 | ⟨h3, h4⟩ <;> (
              go_wp2
              go_roundw
              case rel => exact ⟨k + 1, 10 * n + (s[k].toNat - 48), f, l, by omega, by go_num, val_int (by omega), rfl, by omega, HDN2.out, by omega, HS.out, HF.out, HO.out, HB.out⟩
              case measure => simp [intOf]; omega)
      · have hdn : isDig s[k] = false := by simpa using hdig
        have hng := (isDig_not _).1 hdn
        have h12 : decide ((48 : Int) ≤ (s[k].toNat : Int)) = false ∨ (decide ((48 : Int) ≤ (s[k].toNat : Int)) = true ∧ decide ((s[k].toNat : Int) ≤ 57) = false) := by
          by_cases hz : 48 ≤ s[k].toNat
          · exact .inr ⟨by simp; omega, by simp; omega⟩
          · exact .inl (by simp; omega)
        by_cases h0 : n = 0
        · have HE : Hid (RunsPost (parseA s.data.toList) w (.returned (.tuple #[.slice none 0 0, .int .i64 40])) wr) := HEnd.out (tok_end hdn (.inl h0))
          have hkf : k - f = 0 := HDN.out.zero.1 h0
          have h4 : ((k : Int) == (f : Int)) = true := by rw [beq_iff_eq]; omega
          clear hdig hdn hng h0 HEnd HD HG HT HF hkf
          rcases h12 with h1 | ⟨h1, h2⟩ <;> (
            go_wp2
            go_ret2
            exact HE.out)
        · have hkf : ¬ k - f = 0 := fun e => h0 (HDN.out.zero.2 e)
          have h4 : ((k : Int) == (f : Int)) = false := by rw [beq_eq_false_iff_ne]; omega
          have HS : Hid (tokGo (l ++ [(s[k], (n : Int))]) 0 (s.data.toList.drop (k + 1)) = tokGo [] 0 s.data.toList) := by show _ = _; rw [← HT.out, HD.out, tok_op hdn h0]
          have HF2 : Hid (∀ r ∈ l ++ [(s[k], (n : Int))], 0 ≤ r.2 ∧ r.2 ≤ 9999999) := fun r hr => by
            simp at hr
            rcases hr with hr | rfl
            · exact HF.out r hr
            · exact ⟨by simp, by simp; omega⟩
          have HK : Hid (∀ (v' : Value) (w3 : World) (o : Obj), w3.ownsRow w.heap.size 37 2 v' (l.length + 1) (rowCells l ++ rnCells (s[k], (n : Int))) → (wr.alloc o).grownBy w3 (Value.slice ao l.length cap).ownBlock → w3.ownsRow w.heap.size 37 2 v' (l ++ [(s[k], (n : Int))]).length (rowCells (l ++ [(s[k], (n : Int))])) ∧ Below w.heap.size w w3) := by
            intro v' w3 o ho hg
            have hb := below_append HO.out (by omega) hg
            refine ⟨?_, HB.out.trans hb⟩
            rw [rowCells_snoc]
            simpa using ho
          clear hdig hdn hng h0 HEnd HD HG HT HF HDN HA
          rcases h12 with h1 | ⟨h1, h2⟩ <;> (
            go_wp2_with (at_builtin; go_loud (refine wpList_append_own _ rfl _ _ 22 rfl w.heap.size 37 i0 (.agg #[.int .u8 0, .int .i64 0]) 2 16 Tryz.underlying22 hi hz0 hz1 hz2 rfl (by decide) (.slice ao l.length cap) _ _ rfl (HO.out.alloc _) ⟨_, 0, none⟩ 1 1 (rnCells (s[k], (n : Int))) rfl rfl (cell_two_new _ _ _ _) (rn_oneCell _) (by unfold maxLen; omega) (by omega) (by simp; omega) ?_); intro v' w3 hown' hgrow3 hnil3)
            go_roundw
            case rel => exact ⟨k + 1, 0, k + 1, l ++ [(s[k], (n : Int))], by omega, by go_num, rfl, by go_num, Nat.le_refl _, .inl ⟨by omega, rfl⟩, by simp; omega, HS.out, HF2.out, HK.out _ _ _ hown' hgrow3⟩
            case measure => simp [intOf]; omega)
    · have hdk : decide ((k : Int) < (s.size : Int)) = false := by simp; omega
      have e : s.data.toList.drop k = [] := List.drop_eq_nil_of_le (by rw [size_toList]; omega)
      have HR : Hid (Calls Tryz.prog 58 #[.slice ao l.length cap] wr fun e w' => e = .returned (.bool (rightB l)) ∧ Below wr.heap.size wr w') := refRight_calls ao l.length cap l wr (owned_rns HO.out (fun r hr => by have := HF.out r hr; unfold fitI; omega))
      have h := HT.out
      rw [e, tokGo] at h
      have HNo : Hid (∀ w2, Below wr.heap.size wr w2 → parseA s.data.toList = ([], 40) → RunsPost (parseA s.data.toList) w (.returned (.tuple #[.slice none 0 0, .int .i64 40])) w2) := fun w2 hb2 h => runs_none h (HB.out.trans (hb2.mono HB.out.size))
      by_cases h0 : n = 0
      · have HP : Hid (parseA s.data.toList = finA (some l)) := by show _ = _; rw [HA.out, ← h, if_pos h0]
        have hkf : k - f = 0 := HDN.out.zero.1 h0
        have hfs : decide ((f : Int) < (s.size : Int)) = false := by simp; omega
        have hsf : s.size ≤ f := by omega
        cases hr : rightB l with
        | false =>
          have HE : Hid (parseA s.data.toList = ([], 40)) := by show _ = _; rw [HP.out, finA, if_neg (by rw [hr]; simp)]
          rw [hr] at HR
          clear hr h HT HDN HF HA HP h0 hkf e
          go_wp2_with (go_at_call 58; refine HR.out.mono ?_; rintro e w2 ⟨rfl, hb2⟩)
          go_ret2
          exact HNo.out _ hb2 HE.out
        | true =>
          rw [hr] at HR
          by_cases hl0 : l.length = 0
          · have HE : Hid (parseA s.data.toList = ([], 40)) := by show _ = _; rw [HP.out, List.eq_nil_of_length_eq_zero hl0]; rfl
            have h0' : ((l.length : Int) == 0) = true := by rw [hl0]; rfl
            clear hl0 hr h HT HDN HF HA HP h0 hkf e
            go_wp2_with (go_at_call 58; refine HR.out.mono ?_; rintro e w2 ⟨rfl, hb2⟩)
            go_ret2
            exact HNo.out _ hb2 HE.out
          · have h0' : ((l.length : Int) == 0) = false := by rw [beq_eq_false_iff_ne]; omega
            have HE : Hid (parseA s.data.toList = (l, 0)) := by show _ = _; rw [HP.out, finA, if_pos ⟨fun e => hl0 (by rw [e]; rfl), hr⟩]
            clear hr h HT HDN HF HA HP h0 hkf e
            go_wp2_with (go_at_call 58; refine HR.out.mono ?_; rintro e w2 ⟨rfl, hb2⟩)
            go_ret2
            rw [HE.out]
            exact ⟨_, rfl, owned_below HO.out hb2, HB.out.trans (hb2.mono HB.out.size)⟩
      · have HE : Hid (parseA s.data.toList = ([], 40)) := by show _ = _; rw [HA.out, ← h, if_neg h0]; rfl
        have hkf : ¬ k - f = 0 := fun e => h0 (HDN.out.zero.2 e)
        have hfs : decide ((f : Int) < (s.size : Int)) = true := by simp; omega
        have hsf : ¬ s.size ≤ f := by omega
        clear h HT HDN HF HA h0 hkf e
        cases hr : rightB l <;> (
          rw [hr] at HR
          clear hr
          go_wp2_with (go_at_call 58; refine HR.out.mono ?_; rintro e w2 ⟨rfl, hb2⟩)
          go_ret2
          exact HNo.out _ hb2 HE.out)
end Go.Proofs.YtdhphipdpjhhbaaGreatDoor
