/-
  The walks of upTo, numbers, read, end.
-/
import Derived.Test.YtignpgoicoojiaaDoorRdB
namespace Go.Proofs.YtignpgoicoojiaaDoor
open Go.RowKit

theorem info3 : (Tryd.prog.info? 3).map (fun i => (i.zero, i.size, i.bytes)) = some (some (.int .i64 0), 1, 8) := by kernel_rfl
theorem grown_new {w wq : World} {r : Option Nat} {g : Nat} (h : w.grownBy wq r) (hg : w.heap.size ≤ g) (i : Nat) (v : Value) : w.grownBy (wq.setCell ⟨g, i, none⟩ v) r := by
  have h2 := grown_set wq g i v
  exact ⟨h2.os.trans h.os, h2.tape.trans h.tape, h2.output.trans h.output, Nat.le_trans h.size h2.size, fun k hk hr => (h2.block k (Nat.lt_of_lt_of_le hk h.size) (by intro e; cases e; omega)).trans (h.block k hk hr)⟩
theorem grown_also {w w1 w2 : World} {r : Option Nat} (h : w.grownBy w1 r) (k : w1.grownBy w2 none) : w.grownBy w2 r :=
  ⟨k.os.trans h.os, k.tape.trans h.tape, k.output.trans h.output, Nat.le_trans h.size k.size, fun i hi hr => (k.block i (Nat.lt_of_lt_of_le hi h.size) (by simp)).trans (h.block i hi hr)⟩
theorem own_rd {w w' : World} {B size n b : Nat} {e : TypeId} {v : Value} {xs : List Value} {s : ByteArray} {st : Sr} (h : w.ownsRow B e size v n xs) (he : e ≠ 56) (hr : Rd w b s st) (hg : w.grownBy w' (some b)) : w'.ownsRow B e size v n xs :=
  owned_of_block h fun g cur _ hc => hg.block g (lt_block hc) (fun e' => by cases e'; rw [hr.box] at hc; cases hc; exact he rfl)
theorem rd_ne {w : World} {B size n cap b g : Nat} {e : TypeId} {xs : List Value} {s : ByteArray} {st : Sr} (hr : Rd w b s st) (h : w.ownsRow B e size (.slice (some ⟨g, 0, none⟩) n cap) n xs) (he : e ≠ 56) : b ≠ g := by
  rcases h.2 with ⟨hv, _⟩ | ⟨g', cap', cur, hv, hb, hg, _⟩
  · cases hv
  · cases hv
    intro e'
    subst e'
    rw [hr.box] at hg; cases hg; exact he rfl

set_option maxHeartbeats 1000000 in
theorem upTo_calls (b : Nat) (s : ByteArray) (st : Sr) (most : Int) (w : World) (h : Rd w b s st) :
    Calls Tryd.prog 54 #[.pointer (some ⟨b, 0, none⟩), .int .i64 most] w fun e w' => e = .returned (.int .i64 ((upR s.data.toList most st).1 : Int)) ∧ Rd w' b s (upR s.data.toList most st).2 ∧ w.grownBy w' (some b) := by
  obtain ⟨r, hr⟩ : ∃ r, numR s.data.toList st = r := ⟨_, rfl⟩
  have HC : Hid (Calls Tryd.prog 55 #[.pointer (some ⟨b, 0, none⟩)] w fun e w' => e = .returned (.int .i64 r.1) ∧ Rd w' b s r.2 ∧ w.grownBy w' (some b)) := by rw [← hr]; exact number_calls b s st w h
  have HU : Hid (upR s.data.toList most st = if r.2.2 = true ∨ r.1 < 0 ∨ most < r.1 then (0, (r.2.1, true)) else (r.1.toNat, r.2)) := by show _ = _; rw [upR, hr]
  clear hr h
  obtain ⟨z, at0, wrg⟩ := r
  simp only at HC HU
  go_enter Tryd.func54, Tryd.ntmps54
  go_wp2_with fail
  refine HC.out.mono ?_
  rintro e w1 ⟨rfl, hr1, hg1⟩
  have HR1 : Hid (Rd w1 b s (at0, wrg) ∧ w.grownBy w1 (some b)) := ⟨hr1, hg1⟩
  have HB : Hid (Rd (w1.setCell ⟨b, 2, none⟩ (.bool true)) b s (at0, true) ∧ w.grownBy (w1.setCell ⟨b, 2, none⟩ (.bool true)) (some b)) := ⟨hr1.bad, grown_trans hg1 (grown_set _ _ _ _)⟩
  have c2 := hr1.c2
  have fz := hr1.fz 2
  simp only at c2
  clear hr1 hg1 HC
  cases wrg
  · by_cases h0 : z < 0
    · have HE : Hid (upR s.data.toList most st = (0, (at0, true))) := by show _ = _; rw [HU.out, if_pos (.inr (.inl h0))]
      go_wp2
      go_ret
      rw [HE.out]
      exact ⟨rfl, HB.out.1, HB.out.2⟩
    by_cases h1 : most < z
    · have HE : Hid (upR s.data.toList most st = (0, (at0, true))) := by show _ = _; rw [HU.out, if_pos (.inr (.inr h1))]
      go_wp2
      go_ret
      rw [HE.out]
      exact ⟨rfl, HB.out.1, HB.out.2⟩
    · have HE : Hid (upR s.data.toList most st = (z.toNat, (at0, false))) := by show _ = _; rw [HU.out, if_neg (by simp; omega)]
      have HZ : Hid (((z.toNat : Nat) : Int) = z) := by show _ = _; omega
      go_wp2
      go_ret
      rw [HE.out]
      exact ⟨ret_int HZ.out.symm, HR1.out.1, HR1.out.2⟩
  · have HE : Hid (upR s.data.toList most st = (0, (at0, true))) := by show _ = _; rw [HU.out, if_pos (.inl rfl)]
    go_wp2
    go_ret
    rw [HE.out]
    exact ⟨rfl, HB.out.1, HB.out.2⟩

theorem numsR_len (t : List UInt8) : ∀ (n : Nat) (st : Sr), (numsR t n st).1.length = n
  | 0, _ => rfl
  | n + 1, st => by rw [numsR]; simp [numsR_len t n]
theorem numsR_succ (t : List UInt8) : ∀ (n : Nat) (st : Sr), numsR t (n + 1) st = ((numsR t n st).1 ++ [(numR t (numsR t n st).2).1], (numR t (numsR t n st).2).2)
  | 0, st => rfl
  | n + 1, st => by
    rw [numsR, numsR_succ t n]
    rfl
theorem made_ints (n : Nat) : (madeCells #[.int .i64 0] n).toList = intVals (List.replicate n 0) := by
  apply List.ext_getElem
  · simp [madeCells, intVals]
  · intro i h1 h2
    simp [madeCells, intVals, Nat.mod_one]
theorem set_mid {α : Type} (l : List α) (x d : α) (m : Nat) : (l ++ List.replicate (m + 1) d).set l.length x = (l ++ [x]) ++ List.replicate m d := by
  rw [List.set_append_right _ _ (Nat.le_refl _), Nat.sub_self, List.replicate_succ]; simp
theorem intVals_set (l : List Int) (i : Nat) (z : Int) : (intVals l).set i (.int .i64 z) = intVals (l.set i z) := by simp [intVals, List.map_set]

set_option maxHeartbeats 2000000 in
theorem numbers_calls (b : Nat) (s : ByteArray) (st : Sr) (n : Nat) (w : World) (h : Rd w b s st) (hn : n ≤ 400) :
    Calls Tryd.prog 56 #[.pointer (some ⟨b, 0, none⟩), .int .i64 (n : Int)] w fun e w' => ∃ g, e = .returned (.slice (some ⟨g, 0, none⟩) n n) ∧ w'.ownsRow w.heap.size 3 1 (.slice (some ⟨g, 0, none⟩) n n) n (intVals (numsR s.data.toList n st).1) ∧ Rd w' b s (numsR s.data.toList n st).2 ∧ w.grownBy w' (some b) := by
  have HR : Hid (Rd w b s st) := h
  clear h
  obtain ⟨i0, hi, hz0, hz1, hz2⟩ := info_parts info3
  go_enter Tryd.func56, Tryd.ntmps56
  go_wp2_with (at_make; refine wpList_make_full _ rfl _ _ 22 rfl w.heap.size 3 i0 (.int .i64 0) 1 Tryd.underlying22 hi hz0 hz1 .i64 .i64 _ _ n rfl rfl rfl rfl (by rw [hz2]; omega) (by unfold maxLen; omega) (Nat.le_refl _) ?_)
  intro w3 hown3 hgrow3
  have H3 : Hid (w3.ownsRow w.heap.size 3 1 (.slice (some ⟨w.heap.size, 0, none⟩) n n) n (intVals ((numsR s.data.toList 0 st).1 ++ List.replicate (n - 0) 0)) ∧ Rd w3 b s (numsR s.data.toList 0 st).2 ∧ w.grownBy w3 (some b)) :=
    ⟨by rw [made_ints] at hown3; exact hown3, HR.out.other hgrow3 (by simp), grown_also (grown_refl _ _) hgrow3⟩
  clear hown3 hgrow3 HR
  obtain ⟨g, hg⟩ : ∃ g, g = w.heap.size := ⟨_, rfl⟩
  have HG : Hid (w.heap.size = g) := hg.symm
  rw [← hg] at H3
  clear hg
  rw [HG.out]
  go_wp2
  go_loopw [6, 11] (fun _ i wq => ∃ k : Nat, k ≤ n ∧ i = .int .i64 k ∧ wq.ownsRow g 3 1 (.slice (some ⟨g, 0, none⟩) n n) n (intVals ((numsR s.data.toList k st).1 ++ List.replicate (n - k) 0)) ∧ Rd wq b s (numsR s.data.toList k st).2 ∧ w.grownBy wq (some b)) (fun _ i _ => n - (intOf i).toNat)
  case atStart => exact ⟨0, Nat.zero_le _, rfl, H3.out.1, H3.out.2.1, H3.out.2.2⟩
  case round =>
    obtain ⟨k, hk, rfl, hown, hrd, hgr⟩ := hrel
    clear H3
    by_cases hlt : k < n
    · have HN := numsR_succ s.data.toList k st
      obtain ⟨r, hr⟩ : ∃ r, numR s.data.toList (numsR s.data.toList k st).2 = r := ⟨_, rfl⟩
      rw [hr] at HN
      have HNN : Hid (numsR s.data.toList (k + 1) st = ((numsR s.data.toList k st).1 ++ [r.1], r.2)) := HN
      have hlen := numsR_len s.data.toList k st
      have HC : Hid (Calls Tryd.prog 55 #[.pointer (some ⟨b, 0, none⟩)] wr fun e w' => e = .returned (.int .i64 r.1) ∧ Rd w' b s r.2 ∧ wr.grownBy w' (some b)) := by rw [← hr]; exact number_calls b s _ wr hrd
      obtain ⟨m, hm⟩ : ∃ m, n - k = m + 1 := ⟨n - k - 1, by omega⟩
      rw [hm] at hown
      have HS : Hid (wr.ownsRow g 3 1 (.slice (some ⟨g, 0, none⟩) n n) n (intVals ((numsR s.data.toList k st).1 ++ List.replicate (m + 1) 0)) ∧ Rd wr b s (numsR s.data.toList k st).2 ∧ w.grownBy wr (some b)) := ⟨hown, hrd, hgr⟩
      have HM : Hid (n - (k + 1) = m) := by show _ = _; omega
      clear hown hrd hgr HN hr hm
      generalize (numsR s.data.toList k st).1 = l at HNN HS hlen
      generalize (numsR s.data.toList k st).2 = sk at HS
      obtain ⟨z, sn⟩ := r
      simp only at HC HNN
      go_wp2_with fail
      refine HC.out.mono ?_
      rintro e w1 ⟨rfl, hr1, hg1⟩
      have ho1 := own_rd HS.out.1 (by decide) HS.out.2.1 hg1
      have hne : b ≠ g := rd_ne hr1 ho1 (by decide)
      obtain ⟨cc, fz⟩ := owned_cells ho1 k (.int .i64 0) (by
        rw [intVals, List.getElem?_map, List.getElem?_append_right (by omega), hlen, Nat.sub_self]; simp)
      have HO : Hid ((w1.setCell ⟨g, k, none⟩ (.int .i64 z)).ownsRow g 3 1 (.slice (some ⟨g, 0, none⟩) n n) n (intVals (l ++ [z] ++ List.replicate m 0)) ∧ Rd (w1.setCell ⟨g, k, none⟩ (.int .i64 z)) b s sn ∧ w.grownBy (w1.setCell ⟨g, k, none⟩ (.int .i64 z)) (some b)) := by
        refine ⟨?_, hr1.other (grown_set w1 g k _) (fun e => hne (by cases e; rfl)), grown_new (grown_trans HS.out.2.2 hg1) (by rw [HG.out]; exact Nat.le_refl _) k _⟩
        have := owned_set ho1 k (.int .i64 z)
        rw [intVals_set, ← hlen, set_mid] at this
        rw [← hlen]
        exact this
      clear hr1 hg1 ho1 hne HC HS
      go_wp2
      go_roundw
      case rel => exact ⟨k + 1, by omega, by go_num, by rw [HNN.out, HM.out]; exact HO.out.1, by rw [HNN.out]; exact HO.out.2.1, HO.out.2.2⟩
      case measure => simp [intOf]; omega
    · have hkn : k = n := by omega
      subst hkn
      have HS : Hid (wr.ownsRow w.heap.size 3 1 (.slice (some ⟨g, 0, none⟩) k k) k (intVals (numsR s.data.toList k st).1) ∧ Rd wr b s (numsR s.data.toList k st).2 ∧ w.grownBy wr (some b)) := by
        rw [Nat.sub_self, List.replicate_zero, List.append_nil] at hown
        exact ⟨by rw [HG.out]; exact hown, hrd, hgr⟩
      clear hown hrd hgr
      go_wp2
      go_ret
      exact ⟨g, rfl, HS.out.1, HS.out.2.1, HS.out.2.2⟩

set_option maxHeartbeats 1000000 in
theorem read_calls (b : Nat) (s : ByteArray) (st : Sr) (w : World) (h : Rd w b s st) :
    Calls Tryd.prog 45 #[.pointer (some ⟨b, 0, none⟩)] w fun e w' => e = .returned (.string (s.extract 0 st.1)) ∧ ∃ n, w' = w.drewN n := by
  have c0 := h.c0
  have c1 := h.c1
  have hle := h.le
  have hs := h.short
  unfold maxLen at hs
  clear h
  have hsl : ∀ W, (Instr.slice 9 (.string s) none (some (.int .i64 (st.1 : Int))) none).run Tryd.prog W = .ok (.string (s.extract 0 st.1)) W := fun W => by
    rw [run_slice_string_to_if W 9 s .i64 _ Tryd.underlying9, if_pos (by omega)]
    simp
  go_enter Tryd.func45, Tryd.ntmps45
  go_wp2_with fail
  go_quiet (fail)
  go_wp2
  go_ret
  exact ⟨rfl, _, rfl⟩

set_option maxHeartbeats 1000000 in
theorem end_calls (b : Nat) (s : ByteArray) (st : Sr) (w : World) (h : Rd w b s st) :
    Calls Tryd.prog 46 #[.pointer (some ⟨b, 0, none⟩)] w fun e w' => e = .returned (.tuple #[]) ∧ Rd w' b s (st.1, st.2 || decide (st.1 < s.size)) ∧ w.grownBy w' (some b) := by
  have HR : Hid (Rd w b s st) := h
  have c0 := h.c0
  have c1 := h.c1
  clear h
  obtain ⟨at0, wrg⟩ := st
  simp only at c1
  by_cases hlt : at0 < s.size
  · have hd : decide ((at0 : Int) < (s.size : Int)) = true := by simp; omega
    have HD : Hid (decide (at0 < s.size) = true) := by show _ = _; simpa using hlt
    go_enter Tryd.func46, Tryd.ntmps46
    go_wp2_with fail
    go_quiet (fail)
    have HB : Hid (Rd ((w.drewN nq).setCell ⟨b, 2, none⟩ (.bool true)) b s (at0, true) ∧ w.grownBy ((w.drewN nq).setCell ⟨b, 2, none⟩ (.bool true)) (some b)) := ⟨(HR.out.drewN nq).bad, grown_trans (grown_drewN nq) (grown_set _ _ _ _)⟩
    have fz := (HR.out.drewN nq).fz 2
    have d2 := (HR.out.drewN nq).c2
    simp only at d2
    generalize w.drewN nq = wd at *
    go_wp2
    go_end0
    rw [HD.out]
    exact ⟨rfl, by rw [Bool.or_true]; exact HB.out.1, HB.out.2⟩
  · have hd : decide ((at0 : Int) < (s.size : Int)) = false := by simp; omega
    have HD : Hid (decide (at0 < s.size) = false) := by show _ = _; simpa using hlt
    go_enter Tryd.func46, Tryd.ntmps46
    go_wp2_with fail
    go_quiet (fail)
    have HB : Hid (Rd (w.drewN nq) b s (at0, wrg) ∧ w.grownBy (w.drewN nq) (some b)) := ⟨HR.out.drewN nq, grown_drewN nq⟩
    generalize w.drewN nq = wd at *
    go_wp2
    go_end0
    rw [HD.out]
    exact ⟨rfl, by rw [Bool.or_false]; exact HB.out.1, HB.out.2⟩
end Go.Proofs.YtignpgoicoojiaaDoor
