/-
  The walks of cigar.split and cigar.Parse.
-/
import Derived.Test.YtdhphipdpjhhbaaGreatDoorRight
namespace Go.Proofs.YtdhphipdpjhhbaaGreatDoor
open Go.RowKit

theorem val_int {k : IntKind} {a b : Int} (h : a = b) : Value.int k a = .int k b := by rw [h]
theorem drop_at {s : List UInt8} {k : Nat} {c : UInt8} (h : s[k]? = some c) : s.drop k = c :: s.drop (k + 1) := by
  obtain ⟨hlt, he⟩ := List.getElem?_eq_some_iff.1 h
  rw [List.drop_eq_getElem_cons hlt, he]
section
variable {l : List Rn} {n : Nat} {c : UInt8} {r : List UInt8}
theorem tok_zero (hd : isDig c = true) (h : n = 0 ∧ c = 48) : tokGo l n (c :: r) = none := by
  rw [tokGo, if_pos hd, if_pos h]
theorem tok_dig (hd : isDig c = true) (h : ¬ (n = 0 ∧ c = 48)) : tokGo l n (c :: r) = tokGo l (10 * n + (c.toNat - 48)) r := by
  rw [tokGo, if_pos hd, if_neg h]
theorem tok_no (hd : isDig c = false) (h : n = 0) : tokGo l n (c :: r) = none := by
  rw [tokGo, if_neg (by rw [hd]; decide), if_pos h]
theorem tok_op (hd : isDig c = false) (h : n ≠ 0) : tokGo l n (c :: r) = tokGo (l ++ [(c, (n : Int))]) 0 r := by
  rw [tokGo, if_neg (by rw [hd]; decide), if_neg h]
/-- Where split ends its look. -/
theorem tok_end (hd : isDig c = false) (h : n = 0 ∨ isOpB c = false ∨ 131074 ≤ l.length) : finA (tokGo l n (c :: r)) = ([], 40) := by
  by_cases h0 : n = 0
  · rw [tok_no hd h0]; rfl
  · rw [tok_op hd h0]
    refine tok_bad _ _ _ ?_
    rcases h with h | h | h
    · exact absurd h h0
    · exact bad_run _ _ (.inl h)
    · exact bad_many _ (by simp; omega)
end
theorem isDig_iff (c : UInt8) : isDig c = true ↔ 48 ≤ c.toNat ∧ c.toNat ≤ 57 := by simp [isDig]
theorem isDig_not (c : UInt8) : isDig c = false ↔ ¬ (48 ≤ c.toNat ∧ c.toNat ≤ 57) := by rw [← isDig_iff]; simp
theorem eq48 (c : UInt8) : c = 48 ↔ c.toNat = 48 := ⟨fun h => by rw [h]; rfl, fun h => UInt8.toNat_inj.1 (by rw [h]; rfl)⟩
theorem op_notDig {c : UInt8} (h : isOpB c = true) : isDig c = false := by
  rw [isDig_not]
  simp [isOpB, isColB] at h
  rcases h with (h | h | h) | h <;> (rw [h]; decide)

def SplitPost (s : List UInt8) (w : World) (e : Ending) (w' : World) : Prop :=
  ∃ v l ok, e = .returned (.tuple #[v, .bool ok]) ∧ w'.ownsRow w.heap.size 37 2 v l.length (rowCells l) ∧ Below w.heap.size w w' ∧ (ok = true → tokGo [] 0 s = some l) ∧ (ok = false → finA (tokGo [] 0 s) = ([], 40)) ∧ l.length ≤ 131074 ∧ (∀ r ∈ l, 0 ≤ r.2 ∧ r.2 ≤ 131072)
theorem split_none {s : List UInt8} {w w' : World} (h : finA (tokGo [] 0 s) = ([], 40)) (hb : Below w.heap.size w w') : SplitPost s w (.returned (.tuple #[.slice none 0 0, .bool false])) w' :=
  ⟨_, [], false, rfl, owned_none_nil _ _, hb, (fun h => by cases h), (fun _ => h), by simp, (fun _ h => by cases h)⟩

set_option maxHeartbeats 4000000 in
theorem split_calls (s : ByteArray) (w : World) :
    Calls Tryz.prog 90 #[.string s] w fun e w' => SplitPost s.data.toList w e w' := by
  obtain ⟨i0, hi, hz0, hz1, hz2⟩ := info_parts info29
  go_enter Tryz.func90, Tryz.ntmps90
  go_wp2
  go_loopw [4, 5] (fun v nn wr => ∃ (pos n : Nat) (l : List Rn), pos ≤ s.size ∧ nn = .int .i64 n ∧ n ≤ 131072 ∧ l.length ≤ 131074 ∧ Hid (tokGo l n (s.data.toList.drop pos) = tokGo [] 0 s.data.toList) ∧ Hid (∀ r ∈ l, 0 ≤ r.2 ∧ r.2 ≤ 131072) ∧ wr.heap[w.heap.size]? = some (.stringIter s pos) ∧ wr.ownsRow (w.heap.size + 1) 37 2 v l.length (rowCells l) ∧ Below w.heap.size w wr) (fun _ _ wr => s.size - wr.iterPos w.heap.size)
  case atStart => exact ⟨0, 0, [], Nat.zero_le _, rfl, by omega, by simp, rfl, (fun _ h => by cases h), World.iter_heap w s 0, World.ownsRow_nil _ _ _ _, (Below.refl _ _).alloc (Nat.le_refl _) _⟩
  case round =>
    obtain ⟨pos, n, l, hp0, rfl, hn, hll, HT, HF, hit, hown, hbw⟩ := hrel
    have hpos0 := iterPos_of hit
    obtain ⟨ao, cap, rfl⟩ := owned_shape hown
    by_cases hp : pos < s.size
    · obtain ⟨x, d, hnx, hd1, hx⟩ := next_rune wr w.heap.size s pos hit hp
      have HG : Hid (s.data.toList[pos]? = some s[pos]) := getElem?_at s pos hp
      have hit2 := Lib.iterAt_heap wr w.heap.size s pos (pos + d) hit
      have hbw2 := Lib.below_iterAt hbw (k := w.heap.size) (Nat.le_refl _) s (pos + d)
      have hown2 := ownsRow_iterAt hown (k := w.heap.size) (by omega) s (pos + d)
      obtain ⟨W1, hW1⟩ : ∃ W1, W1 = wr.iterAt w.heap.size s (pos + d) := ⟨_, rfl⟩
      rw [← hW1] at hnx hit2 hbw2 hown2
      clear hW1 hit hown hbw
      have HD : Hid (s.data.toList.drop pos = s[pos] :: s.data.toList.drop (pos + 1)) := drop_at HG.out
      have HEnd : Hid (finA (tokGo l n (s[pos] :: s.data.toList.drop (pos + 1))) = ([], 40) → SplitPost s.data.toList w (.returned (.tuple #[.slice none 0 0, .bool false])) W1) := fun h => split_none (by rw [← HT.out, HD.out]; exact h) hbw2
      have hu8 := UInt8.toNat_lt s[pos]
      by_cases hdig : isDig s[pos] = true
      · have hdg := (isDig_iff _).1 hdig
        obtain ⟨rfl, rfl⟩ : x = (s[pos].toNat : Int) ∧ d = 1 := by
          rcases hx with h | ⟨_, h⟩
          · exact h
          · omega
        have h1 : decide ((48 : Int) ≤ (s[pos].toNat : Int)) = true := by simp; omega
        have h2 : decide ((s[pos].toNat : Int) ≤ 57) = true := by simp; omega
        clear hx
        by_cases h0 : n = 0 ∧ s[pos] = 48
        · have HE : Hid (SplitPost s.data.toList w (.returned (.tuple #[.slice none 0 0, .bool false])) W1) := HEnd.out (by rw [tok_zero hdig h0]; rfl)
          have h3 : decide ((0 : Int) < (n : Int)) = false := by simp; omega
          have h3' : decide (0 < n) = false := by simp; omega
          have h48 := (eq48 _).1 h0.2
          have h4 : decide ((48 : Int) < (s[pos].toNat : Int)) = false := by simp; omega
          have hI : isOpI (s[pos].toNat : Int) = false := by rw [h48]; decide
          clear h48
          clear hdig h0 HEnd HD HG HT HF hown2 hbw2 hit2
          go_wp2_with (go_at_call 100; refine (isOp_calls _ _).mono ?_; rintro e w' ⟨rfl, rfl⟩; rw [hI])
          go_ret2
          exact HE.out
        · have HS : Hid (tokGo l (10 * n + (s[pos].toNat - 48)) (s.data.toList.drop (pos + 1)) = tokGo [] 0 s.data.toList) := by show _ = _; rw [← HT.out, HD.out, tok_dig hdig h0]
          have h34 : (¬ n = 0 ∧ decide ((0 : Int) < (n : Int)) = true ∧ decide (0 < n) = true) ∨ (decide ((0 : Int) < (n : Int)) = false ∧ decide (0 < n) = false ∧ decide ((48 : Int) < (s[pos].toNat : Int)) = true) := by
            by_cases hz : 0 < n
            · exact .inl ⟨by omega, by simp; omega, by simp; omega⟩
            · refine .inr ⟨by simp; omega, by simp; omega, ?_⟩
              have : s[pos].toNat ≠ 48 := fun e => h0 ⟨by omega, (eq48 _).2 e⟩
              simp; omega
          by_cases hbig : 131072 < 10 * n + (s[pos].toNat - 48)
          · have HE : Hid (SplitPost s.data.toList w (.returned (.tuple #[.slice none 0 0, .bool false])) W1) := split_none (by rw [← HS.out]; exact tok_great _ _ _ hbig) hbw2
            have hb : decide ((131072 : Int) < 10 * (n : Int) + ((s[pos].toNat : Int) - 48)) = true := by simp; omega
            clear hdig h0 HEnd HD HG HT HF hown2 hbw2 hit2 HS
            rcases h34 with ⟨hnz, h3, h3p⟩ | ⟨h3, h3p, h4⟩ <;> (
              go_wp2
              go_ret2
              exact HE.out)
          · have hb : decide ((131072 : Int) < 10 * (n : Int) + ((s[pos].toNat : Int) - 48)) = false := by simp; omega
            have HO : Hid (W1.ownsRow (w.heap.size + 1) 37 2 (.slice ao l.length cap) l.length (rowCells l)) := hown2
            have HIt : Hid (W1.heap[w.heap.size]? = some (.stringIter s (pos + 1))) := hit2
            have HB : Hid (Below w.heap.size w W1) := hbw2
            clear hdig h0 HEnd HD HG HT hown2 hbw2 hit2
            rcases h34 with ⟨hnz, h3, h3p⟩ | ⟨h3, h3p, h4⟩ <;> (
              go_wp2
              go_roundw
              case rel => exact ⟨pos + 1, 10 * n + (s[pos].toNat - 48), l, by omega, val_int (by omega), by omega, hll, HS.out, HF.out, HIt.out, HO.out, HB.out⟩
              case measure => rw [iterPos_of HIt.out, hpos0]; omega)
      · have hdn : isDig s[pos] = false := by simpa using hdig
        have hng := (isDig_not _).1 hdn
        have h12 : decide ((48 : Int) ≤ x) = false ∨ (decide ((48 : Int) ≤ x) = true ∧ decide (x ≤ 57) = false) := by
          by_cases hz : 48 ≤ x
          · refine .inr ⟨by simp; omega, ?_⟩
            rcases hx with ⟨rfl, _⟩ | ⟨h, _⟩
            · simp; omega
            · simp; omega
          · exact .inl (by simp; omega)
        cases hop : isOpB s[pos] with
        | false =>
          have hI : isOpI x = false := by
            rcases hx with ⟨rfl, _⟩ | ⟨h1, _⟩
            · rw [isOpI_byte]; exact hop
            · exact opI_high h1
          have HE : Hid (SplitPost s.data.toList w (.returned (.tuple #[.slice none 0 0, .bool false])) W1) := HEnd.out (tok_end hdn (.inr (.inl hop)))
          clear hdig hdn hop HEnd HD HG HT HF hown2 hbw2 hit2 hx
          rcases h12 with h1 | ⟨h1, h2⟩ <;> (
            go_wp2_with (go_at_call 100; refine (isOp_calls _ _).mono ?_; rintro e w' ⟨rfl, rfl⟩; rw [hI])
            go_ret2
            exact HE.out)
        | true =>
          obtain ⟨rfl, rfl⟩ : x = (s[pos].toNat : Int) ∧ d = 1 := by
            rcases hx with h | ⟨_, h⟩
            · exact h
            · rw [opB_high h] at hop; cases hop
          have hI : isOpI (s[pos].toNat : Int) = true := by rw [isOpI_byte]; exact hop
          clear hx
          by_cases h0 : n = 0
          · have HE : Hid (SplitPost s.data.toList w (.returned (.tuple #[.slice none 0 0, .bool false])) W1) := HEnd.out (tok_end hdn (.inl h0))
            have h3 : decide ((0 : Int) < (n : Int)) = false := by simp; omega
            have h3' : decide (0 < n) = false := by simp; omega
            clear hdig hdn hop HEnd HD HG HT HF hown2 hbw2 hit2 h0
            rcases h12 with h1 | ⟨h1, h2⟩ <;> (
              go_wp2_with (go_at_call 100; refine (isOp_calls _ _).mono ?_; rintro e w' ⟨rfl, rfl⟩; rw [hI])
              go_ret2
              exact HE.out)
          · have h3 : decide ((0 : Int) < (n : Int)) = true := by simp; omega
            have h3p : decide (0 < n) = true := by simp; omega
            by_cases hmany : 131074 ≤ l.length
            · have HE : Hid (SplitPost s.data.toList w (.returned (.tuple #[.slice none 0 0, .bool false])) W1) := HEnd.out (tok_end hdn (.inr (.inr hmany)))
              have h5 : decide ((l.length : Int) < 131074) = false := by simp; omega
              clear hdig hdn hop HEnd HD HG HT HF hown2 hbw2 hit2
              rcases h12 with h1 | ⟨h1, h2⟩ <;> (
                go_wp2_with (go_at_call 100; refine (isOp_calls _ _).mono ?_; rintro e w' ⟨rfl, rfl⟩; rw [hI])
                go_ret2
                exact HE.out)
            · have h5 : decide ((l.length : Int) < 131074) = true := by simp; omega
              have HS : Hid (tokGo (l ++ [(s[pos], (n : Int))]) 0 (s.data.toList.drop (pos + 1)) = tokGo [] 0 s.data.toList) := by show _ = _; rw [← HT.out, HD.out, tok_op hdn h0]
              have HF2 : Hid (∀ r ∈ l ++ [(s[pos], (n : Int))], 0 ≤ r.2 ∧ r.2 ≤ 131072) := fun r hr => by
                simp at hr
                rcases hr with hr | rfl
                · exact HF.out r hr
                · exact ⟨by simp, by simp; omega⟩
              have HO : Hid (W1.ownsRow (w.heap.size + 1) 37 2 (.slice ao l.length cap) l.length (rowCells l)) := hown2
              have hlt := (Array.getElem?_eq_some_iff.1 hit2).1
              have HK : Hid (∀ (v' : Value) (w3 : World) (o : Obj), w3.ownsRow (w.heap.size + 1) 37 2 v' (l.length + 1) (rowCells l ++ rnCells (s[pos], (n : Int))) → (W1.alloc o).grownBy w3 (Value.slice ao l.length cap).ownBlock → w3.heap[w.heap.size]? = some (.stringIter s (pos + 1)) ∧ w3.ownsRow (w.heap.size + 1) 37 2 v' (l ++ [(s[pos], (n : Int))]).length (rowCells (l ++ [(s[pos], (n : Int))])) ∧ Below w.heap.size w w3) := by
                intro v' w3 o ho hg
                have hb := below_append hown2 (by omega) hg
                refine ⟨by rw [hb.block _ (by omega)]; exact hit2, ?_, hbw2.trans (hb.mono (by omega))⟩
                rw [rowCells_snoc]
                simpa using ho
              have hw1 : w.heap.size + 1 ≤ W1.heap.size := by omega
              clear hdig hdn hop HEnd HD HG HT HF hown2 hbw2 hit2
              rcases h12 with h1 | ⟨h1, h2⟩ <;> (
                go_wp2_with (first
                  | (go_at_call 100; refine (isOp_calls _ _).mono ?_; rintro e w' ⟨rfl, rfl⟩; rw [hI])
                  | (at_builtin; go_loud (refine wpList_append_own _ rfl _ _ 22 rfl (w.heap.size + 1) 37 i0 (.agg #[.int .u8 0, .int .i64 0]) 2 16 Tryz.underlying22 hi hz0 hz1 hz2 rfl (by decide) (.slice ao l.length cap) _ _ rfl (HO.out.alloc _) ⟨_, 0, none⟩ 1 1 (rnCells (s[pos], (n : Int))) rfl rfl (cell_two_new _ _ _ _) (rn_oneCell _) (by unfold maxLen; omega) (by omega) (by simp; omega) ?_); intro v' w3 hown' hgrow3 hnil3))
                go_roundw
                case rel => exact ⟨pos + 1, 0, l ++ [(s[pos], (n : Int))], by omega, rfl, by omega, by simp; omega, HS.out, HF2.out, HK.out _ _ _ hown' hgrow3⟩
                case measure => rw [iterPos_of (HK.out _ _ _ hown' hgrow3).1, hpos0]; omega)
    · have hnx : ∀ ty, (Instr.next (.pointer (some ⟨w.heap.size, 0, none⟩)) true ty).run Tryz.prog wr = _ := fun ty => Lib.run_next_end_at wr w.heap.size s pos ty hit hp
      have e : s.data.toList.drop pos = [] := List.drop_eq_nil_of_le (by rw [size_toList]; omega)
      have HE : Hid (∀ ok, ok = decide (n = 0) → SplitPost s.data.toList w (.returned (.tuple #[.slice ao l.length cap, .bool ok])) wr) := by
        intro ok hok
        have h := HT.out
        rw [e, tokGo] at h
        refine ⟨_, l, ok, rfl, owned_base hown (by omega), hbw, fun h1 => ?_, fun h1 => ?_, hll, HF.out⟩
        · rw [h1] at hok; rw [← h, if_pos (by simpa using hok.symm)]
        · rw [h1] at hok; rw [← h, if_neg (by simpa using hok.symm)]; rfl
      clear hown hbw HT
      go_wp2
      go_ret2
      exact HE.out _ (by rw [Bool.eq_iff_iff]; simp <;> omega)

theorem parseA_not {s : ByteArray} (h : ¬ s = ⟨#[42]⟩) : parseA s.data.toList = finA (tokGo [] 0 s.data.toList) := by
  unfold parseA
  rw [if_neg]
  intro e
  exact h (byte_ext (by rw [e]))

set_option maxHeartbeats 2000000 in
theorem parse_calls (s : ByteArray) (w : World) :
    Calls Tryz.prog 64 #[.string s] w fun e w' => RunsPost (parseA s.data.toList) w e w' := by
  by_cases hst : s = ⟨#[42]⟩
  · have HE : Hid (RunsPost (parseA s.data.toList) w (.returned (.tuple #[.slice none 0 0, .int .i64 0])) w) := runs_none (by rw [hst]; rfl) (Below.refl _ _)
    have hd : (s.toList == [42]) = true := by rw [hst, ByteArray.toList_eq]; rfl
    clear hst
    generalize s.data.toList = S at *
    go_enter Tryz.func64, Tryz.ntmps64
    go_wp2
    go_ret2
    exact HE.out
  have HA : Hid (parseA s.data.toList = finA (tokGo [] 0 s.data.toList)) := parseA_not hst
  have hd : (s.toList == [42]) = false := by
    simp only [beq_eq_false_iff_ne, ne_eq, ByteArray.toList_eq]
    exact fun e => hst (byte_ext (by rw [e]))
  have HC : Hid (Calls Tryz.prog 90 #[.string s] w fun e w' => SplitPost s.data.toList w e w') := split_calls s w
  clear hst
  generalize s.data.toList = S at *
  go_enter Tryz.func64, Tryz.ntmps64
  go_wp2_with fail
  refine HC.out.mono ?_
  rintro e w1 ⟨v, l, ok, rfl, hown, hb, hok, hno, hlen, hf⟩
  clear HC
  obtain ⟨ao, cap, rfl⟩ := owned_shape hown
  have HO : Hid (w1.ownsRow w.heap.size 37 2 (.slice ao l.length cap) l.length (rowCells l)) := hown
  have HB : Hid (Below w.heap.size w w1) := hb
  cases ok with
  | false =>
    have HE : Hid (RunsPost (parseA S) w (.returned (.tuple #[.slice none 0 0, .int .i64 40])) w1) := runs_none (by rw [HA.out]; exact hno rfl) hb
    clear hown hb hok hno hf
    go_wp2
    go_ret2
    exact HE.out
  | true =>
    have HT : Hid (parseA S = finA (some l)) := by show _ = _; rw [HA.out, hok rfl]
    by_cases hl0 : l.length = 0
    · have HE : Hid (RunsPost (parseA S) w (.returned (.tuple #[.slice none 0 0, .int .i64 40])) w1) := runs_none (by rw [HT.out, List.eq_nil_of_length_eq_zero hl0]; rfl) hb
      have h0 : ((l.length : Int) == 0) = true := by rw [hl0]; rfl
      clear hown hb hok hno hf
      go_wp2
      go_ret2
      exact HE.out
    · have h0 : ((l.length : Int) == 0) = false := by rw [beq_eq_false_iff_ne]; omega
      have hne : l ≠ [] := fun e => hl0 (by rw [e]; rfl)
      have HR : Hid (Calls Tryz.prog 83 #[.slice ao l.length cap] w1 fun e w' => e = .returned (.bool (rightB l)) ∧ Below w1.heap.size w1 w') := areRight_calls ao l.length cap l w1 (owned_rns hown (fun r hr => by have := hf r hr; unfold fitI; omega))
      have HN : Hid (l ≠ []) := hne
      clear hown hb hok hno hf hne
      cases hr : rightB l with
      | false =>
        have HE : Hid (parseA S = ([], 40)) := by show _ = _; rw [HT.out, finA, if_neg (by rw [hr]; simp)]
        rw [hr] at HR
        clear hr
        go_wp2_with (go_at_call 83; refine HR.out.mono ?_; rintro e w2 ⟨rfl, hb2⟩)
        go_ret2
        exact runs_none HE.out (HB.out.trans (hb2.mono HB.out.size))
      | true =>
        have HE : Hid (parseA S = (l, 0)) := by show _ = _; rw [HT.out, finA, if_pos ⟨HN.out, hr⟩]
        rw [hr] at HR
        clear hr
        go_wp2_with (go_at_call 83; refine HR.out.mono ?_; rintro e w2 ⟨rfl, hb2⟩)
        go_ret2
        rw [HE.out]
        exact ⟨_, rfl, owned_below HO.out hb2, HB.out.trans (hb2.mono HB.out.size)⟩
end Go.Proofs.YtdhphipdpjhhbaaGreatDoor
