/-
  SyntaxBlanks is proved for every input: a source whose tokens are told with blanks between is taken as the same, or refused alike. No condition.
-/
import Derived.Test.YtnnmhmlebffacaaRows
import Derived.Test.YtnnmhmlebffacaaCat
import Derived.Test.YtnnmhmlebffacaaBlP
import Derived.WalkKit
import Derived.ProofKit
import Derived.OpenShut
import Derived.ShutString
import Derived.ChangeOld
import Derived.Below
namespace Go.Proofs.Ytnnmhmlebffacaa
open Go.RowKit Go.Deep

theorem tks_cells {w : World} {ao : Option Addr} {n : Nat} {l : List Tk} (h : TksAt w ao n l) (h0 : 0 < n) : ∃ b off, ao = some ⟨b, off, none⟩ := by
  obtain ⟨b, off, e, _⟩ := h.cells h0
  exact ⟨b, off, e⟩
theorem tks_at {w : World} {b off n : Nat} {l : List Tk} (h : TksAt w (some ⟨b, off, none⟩) n l) {i : Nat} {t : Tk} (hi : l[i]? = some t) :
    w.cell? ⟨b, off + i * 4, none⟩ = some (.int .i64 t.kind) ∧ w.cell? ⟨b, off + i * 4 + 1, none⟩ = some (.int .i64 t.num) ∧ w.cell? ⟨b, off + i * 4 + 2, none⟩ = some (.string (bs t.text)) ∧ w.cell? ⟨b, off + i * 4 + 3, none⟩ = some (.int .i64 (t.pl : Int)) := by
  have hlt : i < n := by rw [← h.length]; exact (List.getElem?_eq_some_iff.1 hi).1
  obtain ⟨b', off', e, hc⟩ := h.cells (by omega)
  cases e
  exact hc i t hi
def gN (_ : Nat) : List UInt8 := [10, 32]
theorem gN_mem (i : Nat) : gN i ∈ putsB := by simp [gN, putsB]
set_option maxRecDepth 20000 in
set_option maxHeartbeats 8000000 in
theorem blanks_walk (s : ByteArray) (w : World) (hs0 : s.size ≤ maxLen) :
    Calls Try.prog 6 #[.string s] w fun e w' => e = .returned (.bool true) ∧ Below w.heap.size w w' := by
  have HA : Hid (∀ w, Calls Try.prog 13 #[] w fun e w' => e = .returned (.bool true) ∧ Below w.heap.size w w') := fun w => awake_calls w
  have HS : Hid (∀ w, Calls Try.prog 21 #[.string s] w fun e w' => ScanPost (scanB s.data.toList) w e w') := fun w => scan_calls s w
  have hfew := scan_few s.data.toList
  have hok := scan_ok s.data.toList
  have hlong : (scanB s.data.toList).2.2 = 0 → s.size ≤ 4000 := fun h => by
    have := (scan_good h).1
    rw [size_toList] at this; exact this
  unfold maxLen at hs0
  by_cases hout : (scanB s.data.toList).2.2 ≠ 0 ∨ 4000 < s.size + 2 * (scanB s.data.toList).1.length
  · have hq : ((scanB s.data.toList).2.2 != 0) = true ∨ (s.size ≤ 4000 ∧ ((scanB s.data.toList).2.2 != 0) = false ∧ decide ((4000 : Int) < (s.size : Int) + 2 * ((scanB s.data.toList).1.length : Int)) = true) := by
      by_cases h0 : (scanB s.data.toList).2.2 = 0
      · refine .inr ⟨hlong h0, by rw [h0]; rfl, ?_⟩
        rcases hout with h | h
        · exact absurd h0 h
        · exact decide_eq_true (by omega)
      · exact .inl (by rw [bne_iff_ne]; exact h0)
    clear hout hlong hok
    generalize scanB s.data.toList = A at *
    obtain ⟨l, p0, zz⟩ := A
    simp only at hq hfew
    rcases hq with h1 | ⟨h0, h1, h2⟩ <;> (
      go_enter Try.func6, Try.ntmps6
      go_wp2_with fail
      refine (HA.out _).mono ?_
      rintro e w1 ⟨rfl, hb1⟩
      have HB1 : Hid (Below w.heap.size w w1) := hb1
      clear hb1
      go_wp2_with fail
      refine (HS.out _).mono ?_
      rintro e w2 ⟨v, rfl, ho2, hb2⟩
      simp only at ho2
      obtain ⟨lo, cap, rfl⟩ := owned_shape ho2
      have HB2 : Hid (Below w.heap.size w w2) := HB1.out.trans (hb2.mono HB1.out.size)
      clear ho2 hb2
      go_wp2
      go_ret
      exact ⟨rfl, HB2.out⟩)
  have hze : (scanB s.data.toList).2.2 = 0 := by
    rcases Classical.em ((scanB s.data.toList).2.2 = 0) with h | h
    · exact h
    · exact absurd (.inl h) hout
  have hle : s.size + 2 * (scanB s.data.toList).1.length ≤ 4000 := by
    rcases Nat.lt_or_ge 4000 (s.size + 2 * (scanB s.data.toList).1.length) with h | h
    · exact absurd (.inr h) hout
    · exact h
  have hs4 := hlong hze
  obtain ⟨M, hM1, hM2, hM3⟩ := scan_blanks (g := gN) gN_mem hze (by rw [size_toList]; exact hle)
  obtain ⟨_, hp0, T, hT, hgood, hpw⟩ := scan_good hze
  have hrise : Rise s.data.toList 0 (scanB s.data.toList).1 := rise_of _ _ (fun t ht => by
    rw [hT] at ht
    rcases List.mem_append.1 ht with ht | ht
    · exact ⟨Nat.zero_le _, Nat.le_of_lt (hgood t ht).lt⟩
    · simp only [List.mem_singleton] at ht
      subst ht
      exact ⟨Nat.zero_le _, Nat.le_refl _⟩) hpw
  have HP1 : Hid (∀ w, Calls Try.prog 9 #[.string s] w fun e w' => TreePost (endW (sourceG (scanB s.data.toList).1)) w e w') := fun w => by
    have := parse_calls s w
    unfold parseW at this
    rw [if_neg (by rw [hze]; simp)] at this; exact this
  clear hout hlong hgood hpw
  generalize scanB s.data.toList = A at *
  obtain ⟨l, p0, zz⟩ := A
  simp only at hze hle hM1 hM2 hM3 hrise hfew hok hp0 hT HP1
  subst hze hp0
  have HR : Hid (Rise s.data.toList 0 l) := hrise
  have HK : Hid (∀ r ∈ l, TkOk r) := hok
  have HTl : Hid (l = T ++ [endTk s.data.toList.length]) := hT
  have HM : Hid (scanB (outL s.data.toList gN 0 0 l) = (M, 0, 0) ∧ M.map strip = l.map strip ∧ (outL s.data.toList gN 0 0 l).length ≤ 4000) := ⟨hM1, hM2, hM3⟩
  have hgt : decide ((4000 : Int) < (s.size : Int) + 2 * (l.length : Int)) = false := by simp; omega
  clear hrise hok hM1 hM2 hM3 hT
  go_enter Try.func6, Try.ntmps6
  go_wp2_with fail
  refine (HA.out _).mono ?_
  rintro e w1 ⟨rfl, hb1⟩
  have HB1 : Hid (Below w.heap.size w w1) := hb1
  clear hb1 HA
  go_wp2_with fail
  refine (HS.out _).mono ?_
  rintro e w2 ⟨v, rfl, ho2, hb2⟩
  simp only at ho2
  obtain ⟨lo, cap, rfl⟩ := owned_shape ho2
  have HB2 : Hid (Below w.heap.size w w2) := HB1.out.trans (hb2.mono HB1.out.size)
  have HT2 : Hid (TksAt w2 lo l.length l) := owned_tks ho2 HK.out
  clear ho2 hb2 HB1 HS
  generalize hn : l.length = n at *
  have HN : Hid (l.length = n) := hn
  clear hn
  go_wp2_with fail
  go_loopw [7, 8, 9] (fun out fr i wr => ∃ (k f : Nat) (o : ByteArray), k ≤ n ∧ i = .int .i64 k ∧ fr = .int .i64 f ∧ out = .string o ∧ f ≤ s.size ∧ wr = w2 ∧ Hid (o.data.toList ++ outL s.data.toList gN k f (l.drop k) = outL s.data.toList gN 0 0 l) ∧ Hid (Rise s.data.toList f (l.drop k)) ∧ Hid (0 < k → ∃ t, l[k - 1]? = some t ∧ t.pl = f)) (fun _ _ i _ => n - (intOf i).toNat)
  case atStart => exact ⟨0, 0, ⟨#[]⟩, Nat.zero_le _, rfl, rfl, rfl, Nat.zero_le _, rfl, rfl, HR.out, fun h => by omega⟩
  case round =>
    obtain ⟨k, f, o, hk, rfl, rfl, rfl, hf, rfl, HO, HRi, HLast⟩ := hrel
    have hos : o.size ≤ 4000 := by
      have h := HM.out.2.2
      rw [← HO.out, List.length_append, size_toList] at h
      omega
    by_cases hlt : k < n
    · obtain ⟨t, ht⟩ : ∃ t, l[k]? = some t := ⟨_, List.getElem?_eq_getElem (by rw [HN.out]; exact hlt)⟩
      have hdr : l.drop k = t :: l.drop (k + 1) := by
        obtain ⟨h1, h2⟩ := List.getElem?_eq_some_iff.1 ht
        rw [List.drop_eq_getElem_cons h1, h2]
      have hri := HRi.out
      have hoo := HO.out
      rw [hdr] at hri hoo
      simp only [outL] at hoo
      obtain ⟨r1, r2, r3⟩ := hri
      rw [size_toList] at r2
      obtain ⟨gl, ol, rfl⟩ := tks_cells HT2.out (by omega)
      obtain ⟨_, _, _, x3⟩ := tks_at HT2.out ht
      have hdk : decide ((k : Int) < (n : Int)) = true := by simp; omega
      have hd1 : decide ((t.pl : Int) < (f : Int)) = false := by simp; omega
      have hd2 : decide ((s.size : Int) < (t.pl : Int)) = false := by simp; omega
      have hrun := slice_run s f t.pl r1 r2
      have hpz : (s.extract f t.pl).size ≤ 4000 := by
        rw [← size_toList, extract_list, List.length_drop, List.length_take, size_toList]; omega
      obtain ⟨c1, d1, n1, e1⟩ := cat_var o (s.extract f t.pl) (by omega)
      obtain ⟨c2, d2, n2, e2⟩ := cat_var c1 ⟨#[10, 32]⟩ (by rw [show (⟨#[10, 32]⟩ : ByteArray).size = 2 from rfl]; omega)
      have HO2 : Hid (c2.data.toList ++ outL s.data.toList gN (k + 1) t.pl (l.drop (k + 1)) = outL s.data.toList gN 0 0 l) := by
        show _ = _
        rw [← hoo, d2, d1, extract_list, List.drop_take]
        simp only [List.append_assoc]
        rfl
      have HR2 : Hid (Rise s.data.toList t.pl (l.drop (k + 1))) := r3
      have HL2 : Hid (∃ t', l[k + 1 - 1]? = some t' ∧ t'.pl = t.pl) := ⟨t, by rw [Nat.add_sub_cancel]; exact ht, rfl⟩
      have hpl : t.pl ≤ 4000 := by omega
      clear hdr hoo ht r3 HO HRi d1 d2 n1 n2 HLast
      generalize s.extract f t.pl = pc at *
      generalize t.pl = pl at *
      go_wp2_with fail
      go_roundw
      case rel => exact ⟨k + 1, pl, c2, by omega, by go_num, rfl, rfl, r2, (by first | rfl | trivial), HO2.out, HR2.out, fun _ => HL2.out⟩
      case measure => simp [intOf]; omega
    · have hdk : decide ((k : Int) < (n : Int)) = false := by simp; omega
      have hkn : k = n := by omega
      subst hkn
      have hnil : l.drop k = [] := List.drop_eq_nil_of_le (by rw [HN.out]; omega)
      have hoo := HO.out
      rw [hnil] at hoo
      simp only [outL] at hoo
      have hfs : f = s.size := by
        have hl1 := HN.out
        have hpos : 0 < k := by rw [← hl1, HTl.out]; simp
        obtain ⟨t, h1, h2⟩ := HLast.out hpos
        rw [HTl.out] at h1
        rw [HTl.out, List.length_append, List.length_singleton] at hl1
        rw [show k - 1 = T.length by omega, List.getElem?_append_right (Nat.le_refl _), Nat.sub_self] at h1
        simp at h1
        rw [← h2, ← h1]; show s.data.toList.length = s.size; rw [size_toList]
      have hc3 : o.data.toList = outL s.data.toList gN 0 0 l := by
        rw [← hoo, hfs, List.drop_eq_nil_of_le (by rw [size_toList]; exact Nat.le_refl _), List.append_nil]
      have hod : decide ((4000 : Int) < (o.size : Int)) = false := by simp; omega
      obtain ⟨hsm, hcd⟩ := end_same (T := l) (M := M) HM.out.2.1
      have HP2 : Hid (∀ w, Calls Try.prog 9 #[.string o] w fun e w' => TreePost (endW (sourceG M)) w e w') := fun w => by
        have := parse_calls o w
        unfold parseW at this
        rw [hc3, HM.out.1] at this
        rw [if_neg (by simp)] at this; exact this
      have HQ : Hid (sameI (endW (sourceG l)).1 (endW (sourceG M)).1 = true ∧ ((endW (sourceG l)).2.1 == (endW (sourceG M)).2.1) = true) := ⟨hsm, by rw [hcd]; simp⟩
      clear hnil hoo hc3 HO HRi HLast hfs hsm hcd HM HTl HT2 HK HR
      generalize endW (sourceG l) = A1 at *
      generalize endW (sourceG M) = A2 at *
      obtain ⟨L1, x1, y1⟩ := A1
      obtain ⟨L2, x2, y2⟩ := A2
      go_wp2_with fail
      refine (HP1.out _).mono ?_
      rintro e w5 ⟨a1, n1, c1, rfl, hn1, hI1, hb5⟩
      have hb0 : Below w.heap.size w w5 := HB2.out.trans (hb5.mono HB2.out.size)
      have HB5 : Hid (Below w.heap.size w w5) := hb0
      have HW6 : Hid (∀ o o', Below w5.heap.size w5 ((w5.alloc o).alloc o')) := fun o o' => ((Below.refl _ _).alloc (Nat.le_refl _) o).alloc (by simp) o'
      have HI1 : Hid (ItsAt true (fun g => wr.heap.size ≤ g) w5 L1 a1 n1) := hI1
      clear hI1 hb5 HB2 hb0 HP1
      simp only
      go_wp2_with fail
      refine (HP2.out _).mono ?_
      rintro e w7 ⟨a2, n2, c2, rfl, hn2, hI2, hb7⟩
      simp only at hI2
      have hsz : ((w5.alloc (.cells #[.slice a1 n1 c1] 24)).alloc (.cells #[.int .i64 x1, .int .i64 y1] 27)).heap.size = w5.heap.size + 2 := by simp
      have hb57 : Below w5.heap.size w5 w7 := (HW6.out _ _).trans (hb7.mono (by rw [hsz]; omega))
      have hA : w7.heap[w5.heap.size]? = some (.cells #[.slice a1 n1 c1] 24 (0, 0)) := by
        rw [hb7.block _ (by rw [hsz]; omega)]; exact heap_old (heap_alloc_new w5 _)
      have hF : w7.heap[w5.heap.size + 1]? = some (.cells #[.int .i64 x1, .int .i64 y1] 27 (0, 0)) := by
        rw [hb7.block _ (by rw [hsz]; omega)]
        have := heap_alloc_new (w5.alloc (.cells #[.slice a1 n1 c1] 24)) (.cells #[.int .i64 x1, .int .i64 y1] 27)
        rwa [show (w5.alloc (.cells #[.slice a1 n1 c1] 24)).heap.size = w5.heap.size + 1 by simp] at this
      have hW8 : ∀ o o', Below w7.heap.size w7 ((w7.alloc o).alloc o') := fun o o' => ((Below.refl _ _).alloc (Nat.le_refl _) o).alloc (by simp) o'
      have HSa : Hid (∀ o o', Calls Try.prog 16 #[.agg #[.slice a1 n1 c1], .agg #[.slice a2 n2 c2]] ((w7.alloc o).alloc o') fun e' w' => e' = .returned (.bool true) ∧ Below ((w7.alloc o).alloc o').heap.size ((w7.alloc o).alloc o') w') := fun o o' => by
        have h := same_calls L1 L2 a1 a2 n1 c1 n2 c2 ((w7.alloc o).alloc o') true true _ _ ((HI1.out.below hb57).below (hW8 o o')) (hI2.below (hW8 o o')) (by unfold maxLen; omega) (by unfold maxLen; omega)
        rw [HQ.out.1] at h; exact h
      have HB8 : Hid (∀ o o', Below w.heap.size w ((w7.alloc o).alloc o')) := fun o o' => by
        have h1 := HB5.out.trans (hb57.mono HB5.out.size)
        exact h1.trans ((hW8 o o').mono h1.size)
      have A0 := fun o o' => keepc (hW8 o o') (blk (i := 0) hA rfl)
      have HF0 : Hid (∀ o o' W, Below ((w7.alloc o).alloc o').heap.size ((w7.alloc o).alloc o') W → W.cell? ⟨w5.heap.size + 1, 0, none⟩ = some (.int .i64 x1)) := fun o o' W hW => keepc hW (keepc (hW8 o o') (blk (i := 0) hF rfl))
      have HG0 : Hid (∀ o c d W, Below ((w7.alloc o).alloc (.cells #[c, d] 27)).heap.size ((w7.alloc o).alloc (.cells #[c, d] 27)) W → W.cell? ⟨w7.heap.size + 1, 0, none⟩ = some c) := fun o c d W hW => by
        have h9 := heap_alloc_new (w7.alloc o) (.cells #[c, d] 27)
        rw [show (w7.alloc o).heap.size = w7.heap.size + 1 by simp] at h9
        exact keepc hW (blk h9 rfl)
      have q : (x1 == x2) = true := HQ.out.2
      clear hb7 hsz hb57 hA hF hW8 hI2 HI1 HW6 HB5 HP2 HQ
      go_wp2_with fail
      refine (HSa.out _ _).mono ?_
      rintro e w9 ⟨rfl, hb9⟩
      have f0 := HF0.out _ _ _ hb9
      have g0 := HG0.out _ _ _ _ hb9
      have HB9 : Hid (Below w.heap.size w w9) := (HB8.out _ _).trans (hb9.mono (HB8.out _ _).size)
      clear hb9 HF0 HG0 HB8 HSa
      go_wp2
      go_ret
      exact ⟨rfl, HB9.out⟩


namespace syntaxBlanks
open Go.ChangeShapes Go.WideShapes Go.ChangeAt Go.RowKit
open Go.ChangeMaps (open_string shut_string)
theorem own : ownKnob Try.prog.godebug = none := by kernel_rfl

set_option maxRecDepth 100000 in
theorem lifted (os : Os) (started : os.Started) (H : Type) (enc : TypeId × Value → H) :
    ReturnsInHanded {} Try.checked os 6 .any (Rows.syntaxBlanksSpec.pre6 enc Try.prog Try.f6 Rows.syntaxBlanksRow.domain false) (Rows.syntaxBlanksSpec.post enc Try.prog Try.f6 false true false false) := by
  refine returnsInHanded_of_change (C := Try.checked) own started (by kernel_rfl) Try.func6
    (ChangeSpec.witness6 (enc := enc) (C := Try.checked) false ⟨#[], #[.string ByteArray.empty], []⟩ 8 (by kernel_rfl) (by kernel_rfl) (by kernel_rfl) (by kernel_rfl)) ?_
  intro W base args ds gs before hval0 hW _ _
  have hval : ∀ (j : Nat) t v, Try.f6.params[j]? = some t → args[j]? = some v → Value.okWide Try.prog W .any base t v := hval0
  have hW' := hW
  obtain ⟨p, q, hA0, hV, rfl, hfz, hnd⟩ := hW
  have hA : DataW.TrodAll enc Try.prog W 0 (fun _ => true) true Try.f6.params.toList args.toList ds p := hA0
  rw [Try.params6] at hA hval
  obtain ⟨v0, vs0, d0, ds0, p0, q0, hargs, rfl, rfl, h0, r0⟩ := trodAll_cons hA
  obtain ⟨rfl, rfl, rfl⟩ := trodAll_nil r0
  obtain rfl : args = #[v0] := by cases args; simp_all
  obtain ⟨rfl, rfl⟩ := trodVars_none hV
  obtain ⟨a0, rfl, rfl, rfl, w0⟩ := open_string Try.underlying9 (hval 0 9 v0 rfl rfl) h0
  clear hA0 hval0
  refine (blanks_walk a0 W w0).mono fun e W' ⟨he, bel⟩ => ?_
  subst he
  exact ⟨_, rfl, _, _, _, [], _, [], hW', trodAll_mk1 (shut_bool Try.underlying4 _), (trodAll_cons_mk (shut_string Try.underlying9 w0) trodAll_mk0), rfl, bel.frame _, fun h => by cases h⟩
end syntaxBlanks

theorem syntaxBlanks_holds : Rows.SyntaxBlanksSaid :=
  OpenClaim.holds_of_wide 6 Try.f6 rfl rfl rfl rfl rfl rfl rfl ⟨rfl, rfl, rfl, rfl, rfl⟩ rfl rfl rfl rfl rfl (by kernel_rfl) Try.func6 (by kernel_rfl)
    (of_decide_eq_true (by kernel_rfl)) (by unfold Func.isWrapper; first | (rw [if_pos (by decide +kernel)]; kernel_rfl) | (rw [if_neg (by decide +kernel)]; exact ⟨rfl, rfl⟩))
    (fun os started H enc _ => syntaxBlanks.lifted os started H enc)
end Go.Proofs.Ytnnmhmlebffacaa
