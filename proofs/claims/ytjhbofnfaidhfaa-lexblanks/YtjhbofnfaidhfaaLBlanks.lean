/-
  LexBlanks is proved for every input: blanks and remarks put ahead of the tokens of a source change places alone. No condition.
-/
import Derived.Test.YtjhbofnfaidhfaaRows
import Derived.Test.YtjhbofnfaidhfaaCat
import Derived.Test.YtjhbofnfaidhfaaBlankP
import Derived.WalkKit
import Derived.ProofKit
import Derived.OpenShut
import Derived.ShutString
import Derived.ChangeOld
import Derived.Below
import Derived.Deep.RegionHeld3
namespace Go.Proofs.Ytjhbofnfaidhfaa
open Go.RowKit

/-- A slice of integers that can be read in a world: its elements. -/
structure IntsAt (w : World) (ao : Option Addr) (len : Nat) (zs : List Int) : Prop where
  length : zs.length = len
  short : len ≤ maxLen
  cells : 0 < len → ∃ b off, ao = some ⟨b, off, none⟩ ∧ ∀ i, i < len → w.cell? ⟨b, off + i, none⟩ = some (.int .i64 (zs.getD i 0))
theorem IntsAt.below {w w' : World} {ao : Option Addr} {len : Nat} {zs : List Int} (h : IntsAt w ao len zs) (hb : Below w.heap.size w w') : IntsAt w' ao len zs := by
  refine ⟨h.length, h.short, fun h0 => ?_⟩
  obtain ⟨b, off, e, hc⟩ := h.cells h0
  refine ⟨b, off, e, fun i hi => ?_⟩
  have hci := hc i hi
  rw [hb.cell (p := ⟨b, off + i, none⟩) (World.block_lt_of_cell? w _ hci)]
  exact hci
theorem tks_cells {w : World} {ao : Option Addr} {n : Nat} {l : List Tk} (h : TksAt w ao n l) (h0 : 0 < n) : ∃ b off, ao = some ⟨b, off, none⟩ := by
  obtain ⟨b, off, e, _⟩ := h.cells h0
  exact ⟨b, off, e⟩
theorem tks_at {w : World} {b off n : Nat} {l : List Tk} (h : TksAt w (some ⟨b, off, none⟩) n l) {i : Nat} {t : Tk} (hi : l[i]? = some t) :
    w.cell? ⟨b, off + i * 4, none⟩ = some (.int .i64 t.kind) ∧ w.cell? ⟨b, off + i * 4 + 1, none⟩ = some (.int .i64 t.num) ∧ w.cell? ⟨b, off + i * 4 + 2, none⟩ = some (.string (bs t.text)) ∧ w.cell? ⟨b, off + i * 4 + 3, none⟩ = some (.int .i64 (t.pl : Int)) := by
  have hlt : i < n := by rw [← h.length]; exact (List.getElem?_eq_some_iff.1 hi).1
  obtain ⟨b', off', e, hc⟩ := h.cells (by omega)
  cases e
  exact hc i t hi

theorem like_calls (k n p q : Int) (x : ByteArray) (w : World) :
    Calls Try.prog 18 #[.agg #[.int .i64 k, .int .i64 n, .string x, .int .i64 p], .agg #[.int .i64 k, .int .i64 n, .string x, .int .i64 q]] w fun e w' => e = .returned (.bool true) ∧ Below w.heap.size w w' := by
  go_enter Try.func18, Try.ntmps18
  go_wp2
  go_ret
  exact ⟨rfl, ((Below.refl _ _).alloc (Nat.le_refl _) _).alloc (by simp) _⟩

/-- Which put: the number in the list, if there is one from 0 on. -/
def kOf (z : List Int) (i : Nat) : Nat := if i < z.length ∧ 0 ≤ z.getD i 0 then (z.getD i 0 % 5).toNat else 0
def gB (z : List Int) (i : Nat) : List UInt8 := putsB.getD (kOf z i) [32]
theorem kOf_lt (z : List Int) (i : Nat) : kOf z i < 5 := by
  unfold kOf
  split
  · have := Int.emod_lt_of_pos (z.getD i 0) (show (0 : Int) < 5 by decide)
    have := Int.emod_nonneg (z.getD i 0) (show (5 : Int) ≠ 0 by decide)
    omega
  · decide
theorem gB_mem (z : List Int) (i : Nat) : gB z i ∈ putsB := by
  unfold gB
  have h := kOf_lt z i
  have hl : putsB.length = 5 := rfl
  rw [List.getD_eq_getElem?_getD, List.getElem?_eq_getElem (by omega)]
  exact List.getElem_mem _
def putVals : Array Value := #[.string ⟨#[32]⟩, .string ⟨#[10]⟩, .string ⟨#[9, 32]⟩, .string ⟨#[35, 32, 120, 33, 10]⟩, .string ⟨#[32, 35, 10]⟩]
theorem put_cell {W : World} {b : Nat} (h : W.heap[b]? = some (.cells putVals 9 (0, 0))) (k : Nat) (hk : k < 5) : W.cell? ⟨b, k, none⟩ = some (.string (bs (putsB.getD k [32]))) := by
  rw [cell_of_row W b k _ 9 (0, 0) h]
  match k, hk with
  | 0, _ => rfl
  | 1, _ => rfl
  | 2, _ => rfl
  | 3, _ => rfl
  | 4, _ => rfl
/-- The tokens, the puts, the numbers, and the world. -/
structure Bk (w : World) (pb : Nat) (lo wo : Option Addr) (n wn : Nat) (l : List Tk) (z : List Int) (W : World) : Prop where
  low : Below w.heap.size w W
  toks : TksAt W lo n l
  puts : W.heap[pb]? = some (.cells putVals 9 (0, 0))
  ints : IntsAt W wo wn z
theorem Bk.next {w W W' : World} {pb : Nat} {lo wo : Option Addr} {n wn : Nat} {l : List Tk} {z : List Int} (h : Bk w pb lo wo n wn l z W) (hb : Below W.heap.size W W') : Bk w pb lo wo n wn l z W' :=
  ⟨h.low.trans (hb.mono h.low.size), h.toks.below hb, keepB h.puts hb, h.ints.below hb⟩

set_option maxRecDepth 20000 in
set_option maxHeartbeats 8000000 in
theorem blanks_walk (s : ByteArray) (wo : Option Addr) (wn wcap : Nat) (z : List Int) (w : World) (hs0 : s.size ≤ maxLen) (hz0 : IntsAt w wo wn z) :
    Calls Try.prog 6 #[.string s, .slice wo wn wcap] w fun e w' => e = .returned (.bool true) ∧ Below w.heap.size w w' := by
  have HA : Hid (∀ w, Calls Try.prog 12 #[] w fun e w' => e = .returned (.bool true) ∧ Below w.heap.size w w') := fun w => awake_calls w
  have HS : Hid (∀ w, Calls Try.prog 9 #[.string s] w fun e w' => ScanPost (scanB s.data.toList) w e w') := fun w => scan_calls s w
  have hfew := scan_few s.data.toList
  have hok := scan_ok s.data.toList
  have hlong : (scanB s.data.toList).2.2 = 0 → s.size ≤ 4000 := fun h => by
    have := (scan_good h).1
    rw [size_toList] at this; exact this
  unfold maxLen at hs0
  have hwn := hz0.short
  unfold maxLen at hwn
  have HZ : Hid (IntsAt w wo wn z) := hz0
  clear hz0
  by_cases hout : (scanB s.data.toList).2.2 ≠ 0 ∨ 4000 < s.size + 8 * (scanB s.data.toList).1.length
  · have hq : ((scanB s.data.toList).2.2 != 0) = true ∨ (s.size ≤ 4000 ∧ ((scanB s.data.toList).2.2 != 0) = false ∧ decide ((4000 : Int) < (s.size : Int) + 8 * ((scanB s.data.toList).1.length : Int)) = true) := by
      by_cases h0 : (scanB s.data.toList).2.2 = 0
      · refine .inr ⟨hlong h0, by rw [h0]; rfl, ?_⟩
        rcases hout with h | h
        · exact absurd h0 h
        · exact decide_eq_true (by omega)
      · exact .inl (by rw [bne_iff_ne]; exact h0)
    clear hout hlong hok
    generalize scanB s.data.toList = A at *
    obtain ⟨l, p0, zz⟩ := A
    simp only at hq hfew
    rcases hq with h1 | ⟨h0, h1, h2⟩ <;> (
      go_enter Try.func6, Try.ntmps6
      go_wp2_with fail
      refine (HA.out _).mono ?_
      rintro e w1 ⟨rfl, hb1⟩
      have HB1 : Hid (Below w.heap.size w w1) := hb1
      clear hb1
      go_wp2_with fail
      refine (HS.out _).mono ?_
      rintro e w2 ⟨v, rfl, ho2, hb2⟩
      simp only at ho2
      obtain ⟨lo, cap, rfl⟩ := owned_shape ho2
      have HB2 : Hid (Below w.heap.size w w2) := HB1.out.trans (hb2.mono HB1.out.size)
      clear ho2 hb2
      go_wp2
      go_ret
      exact ⟨rfl, HB2.out⟩)
  have hze : (scanB s.data.toList).2.2 = 0 := by
    rcases Classical.em ((scanB s.data.toList).2.2 = 0) with h | h
    · exact h
    · exact absurd (.inl h) hout
  have hle : s.size + 8 * (scanB s.data.toList).1.length ≤ 4000 := by
    rcases Nat.lt_or_ge 4000 (s.size + 8 * (scanB s.data.toList).1.length) with h | h
    · exact absurd (.inr h) hout
    · exact h
  have hs4 := hlong hze
  obtain ⟨M, hM1, hM2, hM3⟩ := scan_blanks (g := gB z) (gB_mem z) hze (by rw [size_toList]; exact hle)
  obtain ⟨_, hp0, T, hT, hgood, hpw⟩ := scan_good hze
  have hrise : Rise s.data.toList 0 (scanB s.data.toList).1 := rise_of _ _ (fun t ht => by
    rw [hT] at ht
    rcases List.mem_append.1 ht with ht | ht
    · exact ⟨Nat.zero_le _, Nat.le_of_lt (hgood t ht).lt⟩
    · simp only [List.mem_singleton] at ht
      subst ht
      exact ⟨Nat.zero_le _, Nat.le_refl _⟩) hpw
  have hMok := scan_ok (outL s.data.toList (gB z) 0 0 (scanB s.data.toList).1)
  rw [hM1] at hMok
  clear hout hlong hT hgood hpw
  generalize scanB s.data.toList = A at *
  obtain ⟨l, p0, zz⟩ := A
  simp only at hze hle hM1 hM2 hM3 hrise hfew hok hp0 hMok
  subst hze hp0
  have HR : Hid (Rise s.data.toList 0 l) := hrise
  have HK : Hid (∀ r ∈ l, TkOk r) := hok
  have HKM : Hid (∀ r ∈ M, TkOk r) := hMok
  have HM : Hid (scanB (outL s.data.toList (gB z) 0 0 l) = (M, 0, 0) ∧ M.map strip = l.map strip ∧ (outL s.data.toList (gB z) 0 0 l).length ≤ 4000) := ⟨hM1, hM2, hM3⟩
  have hgt : decide ((4000 : Int) < (s.size : Int) + 8 * (l.length : Int)) = false := by simp; omega
  clear hrise hok hMok hM1 hM2 hM3
  go_enter Try.func6, Try.ntmps6
  go_wp2_with fail
  refine (HA.out _).mono ?_
  rintro e w1 ⟨rfl, hb1⟩
  have HB1 : Hid (Below w.heap.size w w1) := hb1
  clear hb1 HA
  go_wp2_with fail
  refine (HS.out _).mono ?_
  rintro e w2 ⟨v, rfl, ho2, hb2⟩
  simp only at ho2
  obtain ⟨lo, cap, rfl⟩ := owned_shape ho2
  have HB2 : Hid (Below w.heap.size w w2) := HB1.out.trans (hb2.mono HB1.out.size)
  have HT2 : Hid (TksAt w2 lo l.length l) := owned_tks ho2 HK.out
  have HBk : Hid (∀ cs, cs = putVals → Bk w w2.heap.size lo wo l.length wn l z (w2.alloc (.cells cs 9 (0, 0)))) := fun cs hcs => by
    subst hcs
    have hb := (Below.refl _ w2).alloc (Nat.le_refl _) (.cells putVals 9 (0, 0))
    exact ⟨HB2.out.trans (hb.mono HB2.out.size), HT2.out.below hb, heap_alloc_new w2 _, (HZ.out.below HB2.out).below hb⟩
  clear ho2 hb2 HB1 HS
  generalize hn : l.length = n at *
  have HN : Hid (l.length = n) := hn
  clear hn
  go_wp2
  generalize hW3 : w2.alloc _ = W3 at *
  have HBk3 : Hid (Bk w w2.heap.size lo wo n wn l z W3) := by rw [← hW3]; exact HBk.out _ rfl
  clear hW3 HBk HT2 HB2
  generalize w2.heap.size = pb at *
  go_loopw [10, 11, 12] (fun out fr i wr => ∃ (k f : Nat) (o : ByteArray), k ≤ n ∧ i = .int .i64 k ∧ fr = .int .i64 f ∧ out = .string o ∧ f ≤ s.size ∧ Hid (o.data.toList ++ outL s.data.toList (gB z) k f (l.drop k) = outL s.data.toList (gB z) 0 0 l) ∧ Hid (Rise s.data.toList f (l.drop k)) ∧ Bk w pb lo wo n wn l z wr) (fun _ _ i _ => n - (intOf i).toNat)
  case atStart => exact ⟨0, 0, ⟨#[]⟩, Nat.zero_le _, rfl, rfl, rfl, Nat.zero_le _, rfl, HR.out, HBk3.out⟩
  case round =>
    obtain ⟨k, f, o, hk, rfl, rfl, rfl, hf, HO, HRi, hbk⟩ := hrel
    clear HBk3
    have hos : o.size ≤ 4000 := by
      have h := HM.out.2.2
      rw [← HO.out, List.length_append, size_toList] at h
      omega
    by_cases hlt : k < n
    · obtain ⟨t, ht⟩ : ∃ t, l[k]? = some t := ⟨_, List.getElem?_eq_getElem (by rw [HN.out]; exact hlt)⟩
      have hdr : l.drop k = t :: l.drop (k + 1) := by
        obtain ⟨h1, h2⟩ := List.getElem?_eq_some_iff.1 ht
        rw [List.drop_eq_getElem_cons h1, h2]
      have hri := HRi.out
      have hoo := HO.out
      rw [hdr] at hri hoo
      simp only [outL] at hoo
      obtain ⟨r1, r2, r3⟩ := hri
      rw [size_toList] at r2
      obtain ⟨gl, ol, rfl⟩ := tks_cells hbk.toks (by omega)
      obtain ⟨_, _, _, x3⟩ := tks_at hbk.toks ht
      have hdk : decide ((k : Int) < (n : Int)) = true := by simp; omega
      have hd1 : decide ((f : Int) ≤ (t.pl : Int)) = true := by simp; omega
      have hd2 : decide ((t.pl : Int) ≤ (s.size : Int)) = true := by simp; omega
      have hrun := slice_run s f t.pl r1 r2
      have hpz : (s.extract f t.pl).size ≤ 4000 := by
        rw [← size_toList, extract_list, List.length_drop, List.length_take, size_toList]; omega
      have hgz : (bs (gB z k)).size ≤ 5 := by rw [bs_size]; exact (put_len (gB_mem z k)).2
      obtain ⟨c1, d1, n1, e1⟩ := cat_var o (s.extract f t.pl) (by omega)
      obtain ⟨c2, d2, n2, e2⟩ := cat_var c1 (bs (gB z k)) (by omega)
      have HO2 : Hid (c2.data.toList ++ outL s.data.toList (gB z) (k + 1) t.pl (l.drop (k + 1)) = outL s.data.toList (gB z) 0 0 l) := by
        show _ = _
        rw [← hoo, d2, d1, bs_list, extract_list, List.drop_take]
        simp only [List.append_assoc]
      have HR2 : Hid (Rise s.data.toList t.pl (l.drop (k + 1))) := r3
      have HB : Hid (Bk w pb (some ⟨gl, ol, none⟩) wo n wn l z wr) := hbk
      have hcell := put_cell hbk.puts (kOf z k) (kOf_lt z k)
      have hkk := kOf_lt z k
      have hgb : gB z k = putsB.getD (kOf z k) [32] := rfl
      rw [← hgb] at hcell
      have hpl : t.pl ≤ 4000 := by omega
      have hkd : (k < wn ∧ 0 ≤ z.getD k 0 ∧ (z.getD k 0).tmod 5 = (kOf z k : Int)) ∨ (k < wn ∧ z.getD k 0 < 0 ∧ kOf z k = 0) ∨ (¬ k < wn ∧ kOf z k = 0) := by
        have hl := HB.out.ints.length
        by_cases h1 : k < wn
        · by_cases h2 : 0 ≤ z.getD k 0
          · refine .inl ⟨h1, h2, ?_⟩
            unfold kOf
            rw [if_pos ⟨by rw [hl]; exact h1, h2⟩, Int.tmod_eq_emod_of_nonneg h2]
            have := Int.emod_nonneg (z.getD k 0) (show (5 : Int) ≠ 0 by decide)
            omega
          · refine .inr (.inl ⟨h1, by omega, ?_⟩)
            unfold kOf
            rw [if_neg (fun h => h2 h.2)]
        · refine .inr (.inr ⟨h1, ?_⟩)
          unfold kOf
          rw [if_neg (fun h => h1 (by rw [hl] at h; exact h.1))]
      clear hdr hoo ht r3 HO HRi d1 d2 n1 n2 hbk hgb
      generalize s.extract f t.pl = pc at *
      generalize bs (gB z k) = gp at *
      generalize kOf z k = kk at *
      generalize t.pl = pl at *
      rcases hkd with ⟨hw1, hw2, hw3⟩ | ⟨hw1, hw2, rfl⟩ | ⟨hw1, rfl⟩
      · have hdw : decide ((k : Int) < (wn : Int)) = true := by simp; omega
        obtain ⟨gw, ow, rfl, hcw⟩ := HB.out.ints.cells (by omega)
        have hx := hcw k hw1
        generalize z.getD k 0 = x at *
        have hd5 : decide ((0 : Int) ≤ x) = true := by simp; omega
        clear hcw
        go_wp2
        go_quiet (fail)
        go_wp2
        go_roundw
        case rel => exact ⟨k + 1, pl, c2, by omega, by go_num, rfl, rfl, r2, HO2.out, HR2.out, HB.out.next (below_drewN (Below.refl _ _) nq)⟩
        case measure => simp [intOf]; omega
      · have hdw : decide ((k : Int) < (wn : Int)) = true := by simp; omega
        obtain ⟨gw, ow, rfl, hcw⟩ := HB.out.ints.cells (by omega)
        have hx := hcw k hw1
        generalize z.getD k 0 = x at *
        have hd5 : decide ((0 : Int) ≤ x) = false := by simp; omega
        clear hcw
        go_wp2
        go_quiet (fail)
        go_wp2
        go_roundw
        case rel => exact ⟨k + 1, pl, c2, by omega, by go_num, rfl, rfl, r2, HO2.out, HR2.out, HB.out.next (below_drewN (Below.refl _ _) nq)⟩
        case measure => simp [intOf]; omega
      · have hdw : decide ((k : Int) < (wn : Int)) = false := by simp; omega
        go_wp2
        go_quiet (fail)
        go_wp2
        go_roundw
        case rel => exact ⟨k + 1, pl, c2, by omega, by go_num, rfl, rfl, r2, HO2.out, HR2.out, HB.out.next (below_drewN (Below.refl _ _) nq)⟩
        case measure => simp [intOf]; omega
    · have hdk : decide ((k : Int) < (n : Int)) = false := by simp; omega
      have hkn : k = n := by omega
      have hnil : l.drop k = [] := List.drop_eq_nil_of_le (by rw [HN.out]; omega)
      have hoo := HO.out
      rw [hnil] at hoo
      simp only [outL] at hoo
      have hrun : ∀ w, (Instr.slice 9 (.string s) (some (.int .i64 (f : Int))) none none).run Try.prog w = .ok (.string (s.extract f s.size)) w := fun w => by go_simp
      have hpz : (s.extract f s.size).size ≤ 4000 := by rw [drop_size]; omega
      obtain ⟨c3, d3, n3, e3⟩ := cat_var o (s.extract f s.size) (by omega)
      have hc3 : c3.data.toList = outL s.data.toList (gB z) 0 0 l := by rw [d3, drop_list]; exact hoo
      have HS3 : Hid (∀ w, Calls Try.prog 9 #[.string c3] w fun e w' => ScanPost (M, 0, 0) w e w') := fun w => by
        have h := scan_calls c3 w
        rw [hc3, HM.out.1] at h; exact h
      have HB : Hid (Bk w pb lo wo n wn l z wr) := hbk
      have hMl : M.length = n := by
        have := congrArg List.length HM.out.2.1
        rw [List.length_map, List.length_map, HN.out] at this; exact this
      have HSt : Hid (M.map strip = l.map strip) := HM.out.2.1
      clear hnil hoo d3 n3 hc3 hbk HO HRi hkn
      generalize s.extract f s.size = pc at *
      go_wp2_with fail
      refine (HS3.out _).mono ?_
      rintro e w5 ⟨v5, rfl, ho5, hb5⟩
      simp only at ho5
      obtain ⟨mo, cm, rfl⟩ := owned_shape ho5
      rw [hMl] at ho5 ⊢
      have HT5 : Hid (TksAt w5 lo n l ∧ TksAt w5 mo n M ∧ Below w.heap.size w w5) := ⟨HB.out.toks.below hb5, owned_tks ho5 HKM.out, HB.out.low.trans (hb5.mono HB.out.low.size)⟩
      have hne : ((n : Int) != (n : Int)) = false := by simp
      clear ho5 hb5 HB HS3 hMl
      go_wp2
      go_loopw [17] (fun i wr => ∃ k : Nat, k ≤ n ∧ i = .int .i64 k ∧ TksAt wr lo n l ∧ TksAt wr mo n M ∧ Below w.heap.size w wr) (fun i _ => n - (intOf i).toNat)
      case atStart => exact ⟨0, Nat.zero_le _, rfl, HT5.out⟩
      case round =>
        obtain ⟨k2, hk2, rfl, h1, h2, h3⟩ := hrel
        clear HT5
        by_cases hlt2 : k2 < n
        · have hdk2 : decide ((k2 : Int) < (n : Int)) = true := by simp; omega
          obtain ⟨t, ht⟩ : ∃ t, l[k2]? = some t := ⟨_, List.getElem?_eq_getElem (by rw [HN.out]; exact hlt2)⟩
          obtain ⟨t', ht'⟩ : ∃ t', M[k2]? = some t' := ⟨_, List.getElem?_eq_getElem (by rw [h2.length]; exact hlt2)⟩
          have hst : strip t' = strip t := by
            have h := congrArg (fun x => x[k2]?) HSt.out
            simp only [List.getElem?_map, ht, ht', Option.map_some, Option.some.injEq] at h
            exact h
          simp only [strip, Prod.mk.injEq] at hst
          obtain ⟨q1, q2, q3⟩ := hst
          obtain ⟨b1, o1, rfl⟩ := tks_cells h1 (by omega)
          obtain ⟨b2, o2, rfl⟩ := tks_cells h2 (by omega)
          have HC : Hid (∀ W, TksAt W (some ⟨b1, o1, none⟩) n l → TksAt W (some ⟨b2, o2, none⟩) n M → W.cell? ⟨b1, o1 + k2 * 4, none⟩ = some (.int .i64 t.kind) ∧ W.cell? ⟨b1, o1 + k2 * 4 + 1, none⟩ = some (.int .i64 t.num) ∧ W.cell? ⟨b1, o1 + k2 * 4 + 2, none⟩ = some (.string (bs t.text)) ∧ W.cell? ⟨b1, o1 + k2 * 4 + 3, none⟩ = some (.int .i64 (t.pl : Int)) ∧ W.cell? ⟨b2, o2 + k2 * 4, none⟩ = some (.int .i64 t.kind) ∧ W.cell? ⟨b2, o2 + k2 * 4 + 1, none⟩ = some (.int .i64 t.num) ∧ W.cell? ⟨b2, o2 + k2 * 4 + 2, none⟩ = some (.string (bs t.text)) ∧ W.cell? ⟨b2, o2 + k2 * 4 + 3, none⟩ = some (.int .i64 (t'.pl : Int))) := by
            intro W g1 g2
            obtain ⟨x0, x1, x2, x3⟩ := tks_at g1 ht
            obtain ⟨y0, y1, y2, y3⟩ := tks_at g2 ht'
            rw [q1] at y0
            rw [q2] at y1
            rw [q3] at y2
            exact ⟨x0, x1, x2, x3, y0, y1, y2, y3⟩
          have HLk : Hid (∀ W, Hid (TksAt W (some ⟨b1, o1, none⟩) n l ∧ TksAt W (some ⟨b2, o2, none⟩) n M ∧ Below w.heap.size w W) → Calls Try.prog 18 #[.agg #[.int .i64 t.kind, .int .i64 t.num, .string (bs t.text), .int .i64 (t.pl : Int)], .agg #[.int .i64 t.kind, .int .i64 t.num, .string (bs t.text), .int .i64 (t'.pl : Int)]] W fun e w' => e = .returned (.bool true) ∧ Hid (TksAt w' (some ⟨b1, o1, none⟩) n l ∧ TksAt w' (some ⟨b2, o2, none⟩) n M ∧ Below w.heap.size w w') ∧ (w'.cell? ⟨b1, o1 + k2 * 4, none⟩ = some (.int .i64 t.kind) ∧ w'.cell? ⟨b1, o1 + k2 * 4 + 1, none⟩ = some (.int .i64 t.num) ∧ w'.cell? ⟨b1, o1 + k2 * 4 + 2, none⟩ = some (.string (bs t.text)) ∧ w'.cell? ⟨b1, o1 + k2 * 4 + 3, none⟩ = some (.int .i64 (t.pl : Int)) ∧ w'.cell? ⟨b2, o2 + k2 * 4, none⟩ = some (.int .i64 t.kind) ∧ w'.cell? ⟨b2, o2 + k2 * 4 + 1, none⟩ = some (.int .i64 t.num) ∧ w'.cell? ⟨b2, o2 + k2 * 4 + 2, none⟩ = some (.string (bs t.text)) ∧ w'.cell? ⟨b2, o2 + k2 * 4 + 3, none⟩ = some (.int .i64 (t'.pl : Int)))) := by
            intro W hW
            refine (like_calls t.kind t.num (t.pl : Int) (t'.pl : Int) (bs t.text) W).mono ?_
            rintro e w' ⟨rfl, hb⟩
            have g1 := hW.out.1.below hb
            have g2 := hW.out.2.1.below hb
            exact ⟨rfl, ⟨g1, g2, hW.out.2.2.trans (hb.mono hW.out.2.2.size)⟩, HC.out _ g1 g2⟩
          have hbd : Below wr.heap.size wr wr.drew := (Below.refl _ _).drew
          have HJ0 : Hid (TksAt wr.drew (some ⟨b1, o1, none⟩) n l ∧ TksAt wr.drew (some ⟨b2, o2, none⟩) n M ∧ Below w.heap.size w wr.drew) := ⟨h1.below hbd, h2.below hbd, h3.drew⟩
          have HS0 : Hid (wr.drew.cell? ⟨b1, o1 + k2 * 4, none⟩ = some (.int .i64 t.kind) ∧ wr.drew.cell? ⟨b1, o1 + k2 * 4 + 1, none⟩ = some (.int .i64 t.num) ∧ wr.drew.cell? ⟨b1, o1 + k2 * 4 + 2, none⟩ = some (.string (bs t.text)) ∧ wr.drew.cell? ⟨b1, o1 + k2 * 4 + 3, none⟩ = some (.int .i64 (t.pl : Int)) ∧ wr.drew.cell? ⟨b2, o2 + k2 * 4, none⟩ = some (.int .i64 t.kind) ∧ wr.drew.cell? ⟨b2, o2 + k2 * 4 + 1, none⟩ = some (.int .i64 t.num) ∧ wr.drew.cell? ⟨b2, o2 + k2 * 4 + 2, none⟩ = some (.string (bs t.text)) ∧ wr.drew.cell? ⟨b2, o2 + k2 * 4 + 3, none⟩ = some (.int .i64 (t'.pl : Int))) := HC.out _ HJ0.out.1 HJ0.out.2.1
          clear ht ht' q1 q2 q3 h1 h2 h3 HC hbd
          generalize t.kind = kd at *
          generalize t.num = nm at *
          generalize bs t.text = tx at *
          generalize t.pl = pl at *
          generalize t'.pl = pl' at *
          go_wp2_with fail
          go_region_held3 (fun W => W.cell? ⟨b1, o1 + k2 * 4, none⟩ = some (.int .i64 kd) ∧ W.cell? ⟨b1, o1 + k2 * 4 + 1, none⟩ = some (.int .i64 nm) ∧ W.cell? ⟨b1, o1 + k2 * 4 + 2, none⟩ = some (.string tx) ∧ W.cell? ⟨b1, o1 + k2 * 4 + 3, none⟩ = some (.int .i64 (pl : Int)) ∧ W.cell? ⟨b2, o2 + k2 * 4, none⟩ = some (.int .i64 kd) ∧ W.cell? ⟨b2, o2 + k2 * 4 + 1, none⟩ = some (.int .i64 nm) ∧ W.cell? ⟨b2, o2 + k2 * 4 + 2, none⟩ = some (.string tx) ∧ W.cell? ⟨b2, o2 + k2 * 4 + 3, none⟩ = some (.int .i64 (pl' : Int))) (first | with_reducible assumption | with_reducible exact HS0.out) (first | (go_at_call 18; refine (HLk.out _ (by with_reducible assumption)).mono ?_; rintro e w1 ⟨rfl, HB1, hS1⟩))
          clear hS1 HS0 HJ0 HLk
          go_wp2
          go_roundw
          case rel => exact ⟨k2 + 1, by omega, by go_num, HB1.out⟩
          case measure => simp [intOf]; omega
        · have hdk2 : decide ((k2 : Int) < (n : Int)) = false := by simp; omega
          have HL : Hid (Below w.heap.size w wr) := h3
          clear h1 h2 h3
          go_wp2
          go_ret
          exact ⟨rfl, HL.out⟩

theorem intsAt_nil (w : World) : IntsAt w none 0 [] := ⟨rfl, Nat.zero_le _, fun h => by omega⟩
theorem intsAt_open {w : World} {x : Addr} {len cap : Nat} {zs : List Int} (hl : len ≤ cap) (hm : cap ≤ maxLen) (hz : zs.length = cap) (hc : ∀ i, i < zs.length → w.cell? (x.add i) = some (.int .i64 (zs.getD i 0))) : IntsAt w (some x) len (zs.take len) := by
  refine ⟨by rw [List.length_take]; omega, Nat.le_trans hl hm, fun h0 => ?_⟩
  obtain ⟨b, off, rfl, h⟩ := ints_at hc (by omega)
  refine ⟨b, off, rfl, fun i hi => ?_⟩
  rw [h i (by omega)]
  have e : (zs.take len).getD i 0 = zs.getD i 0 := by simp [List.getD, hi]
  rw [e]

namespace lexBlanks
open Go.ChangeShapes Go.WideShapes Go.ChangeAt Go.RowKit
open Go.ChangeMaps (open_string shut_string)
theorem own : ownKnob Try.prog.godebug = none := by kernel_rfl
theorem laidOut : laidOutB Try.prog = true := by kernel_rfl

set_option maxRecDepth 100000 in
theorem lifted (os : Os) (started : os.Started) (H : Type) (enc : TypeId × Value → H) :
    ReturnsInHanded {} Try.checked os 6 .any (Rows.lexBlanksSpec.pre6 enc Try.prog Try.f6 Rows.lexBlanksRow.domain false) (Rows.lexBlanksSpec.post enc Try.prog Try.f6 false true false false) := by
  refine returnsInHanded_of_change (C := Try.checked) own started (by kernel_rfl) Try.func6
    (ChangeSpec.witness6 (enc := enc) (C := Try.checked) false ⟨#[], #[.string ByteArray.empty, .slice none 0 0], []⟩ 8 (by kernel_rfl) (by kernel_rfl) (by kernel_rfl) (by kernel_rfl)) ?_
  intro W base args ds gs before hval0 hW _ _
  have hval : ∀ (j : Nat) t v, Try.f6.params[j]? = some t → args[j]? = some v → Value.okWide Try.prog W .any base t v := hval0
  have hW' := hW
  obtain ⟨p, q, hA0, hV, rfl, hfz, hnd⟩ := hW
  have hA : DataW.TrodAll enc Try.prog W 0 (fun _ => true) true Try.f6.params.toList args.toList ds p := hA0
  rw [Try.params6] at hA hval
  obtain ⟨v0, vs0, d0, ds0, p0, q0, hargs, rfl, rfl, h0, r0⟩ := trodAll_cons hA
  obtain ⟨v1, vs1, d1, ds1, p1, q1, rfl, rfl, rfl, h1, r1⟩ := trodAll_cons r0
  obtain ⟨rfl, rfl, rfl⟩ := trodAll_nil r1
  obtain rfl : args = #[v0, v1] := by cases args; simp_all
  obtain ⟨rfl, rfl⟩ := trodVars_none hV
  obtain ⟨a0, rfl, rfl, rfl, w0⟩ := open_string Try.underlying9 (hval 0 9 v0 rfl rfl) h0
  obtain ⟨a1, len1, cap1, rfl⟩ := okWide_slice Try.underlying33 (hval 1 33 v1 rfl rfl)
  have k1 := h1
  have lt1 : ∀ x ∈ p1, x.block < W.heap.size := by obtain ⟨m, hm⟩ := k1; exact DataW.trod_lt m _ _ _ hm
  obtain ⟨z1, w1⟩ : ∃ zs, IntsAt W a1 len1 zs := by
    obtain ⟨fuel, hf⟩ := h1
    rcases open_ints Try.underlying33 Try.underlying3 (by kernel_rfl) hf with ⟨hcs, _⟩ | ⟨x, l, c, zs, hcs, _, hl, hm, hz, _, hcell, _⟩
    · simp [Value.cells] at hcs
      obtain ⟨rfl, rfl, rfl⟩ := hcs
      exact ⟨[], intsAt_nil _⟩
    · simp [Value.cells] at hcs
      obtain ⟨rfl, rfl, rfl⟩ := hcs
      exact ⟨_, intsAt_open hl hm (by simpa using hz) hcell⟩
  clear hA0 hval0
  refine (blanks_walk a0 a1 len1 cap1 z1 W w0 w1).mono fun e W' ⟨he, bel⟩ => ?_
  subst he
  exact ⟨_, rfl, _, _, _, [], _, [], hW', trodAll_mk1 (shut_bool Try.underlying4 _), (trodAll_cons_mk (shut_string Try.underlying9 w0) (trodAll_cons_mk (Below.trod laidOut (by kernel_rfl) (of_decide_eq_true (by kernel_rfl)) k1 bel lt1) trodAll_mk0)), rfl, bel.frame _, fun h => by cases h⟩
end lexBlanks

theorem lexBlanks_holds : Rows.LexBlanksSaid :=
  OpenClaim.holds_of_wide 6 Try.f6 rfl rfl rfl rfl rfl rfl rfl ⟨rfl, rfl, rfl, rfl, rfl⟩ rfl rfl rfl rfl rfl (by kernel_rfl) Try.func6 (by kernel_rfl)
    (of_decide_eq_true (by kernel_rfl)) (by unfold Func.isWrapper; first | (rw [if_pos (by decide +kernel)]; kernel_rfl) | (rw [if_neg (by decide +kernel)]; exact ⟨rfl, rfl⟩))
    (fun os started H enc _ => lexBlanks.lifted os started H enc)
end Go.Proofs.Ytjhbofnfaidhfaa
