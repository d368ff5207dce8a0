/-
  The walks of the document's own Right of sequences, place and fits.
-/
import Derived.Test.YtdhphipdpjhhbaaGreatDoorLists
import Derived.Test.YtdhphipdpjhhbaaGreatDoorFields
import Derived.Test.YtdhphipdpjhhbaaGreatDoorCells
namespace Go.Proofs.YtdhphipdpjhhbaaGreatDoor
open Go.RowKit

set_option maxRecDepth 20000 in
set_option maxHeartbeats 2000000 in
theorem refSeq_calls (q : Sq) (w : World) (h : q.short) :
    Calls Tryz.prog 40 #[.agg #[.string q.1, .string q.2.1, .string q.2.2]] w fun e w' => e = .returned (.bool (seqOkB q.P)) ∧ Below w.heap.size w w' := by
  obtain ⟨a, b, c⟩ := q
  have hcm : c.size ≤ maxLen := h.2.2
  unfold maxLen at hcm
  have H1 : Hid (∀ W, Calls Tryz.prog 46 #[.string a] W fun e w' => e = .returned (.bool (nameB a.data.toList)) ∧ w' = W) := fun W => refName_calls a W h.1
  have H2 : Hid (∀ W, Calls Tryz.prog 71 #[.string b] W fun e w' => e = .returned (.bool (noteB b.data.toList)) ∧ w' = W) := fun W => refNote_calls b W h.2.1
  have H3 : Hid (∀ W, Calls Tryz.prog 47 #[.string c] W fun e w' => e = .returned (.int .i64 (letN c.data.toList : Int)) ∧ w' = W) := fun W => letters_calls c W h.2.2
  have HE : Hid (seqOkB (Sq.P (a, b, c)) = (nameB a.data.toList && (noteB b.data.toList && (decide (letN c.data.toList = c.size) && (decide (1 ≤ c.size) && decide (c.size ≤ 65536)))))) := by
    show _ = _
    rw [← bases_letN]; rfl
  have hlt : letN c.data.toList ≤ c.size := by have := letN_le c.data.toList; rwa [size_toList] at this
  have HN : Hid (∀ o, Below w.heap.size w (w.alloc o)) := below_new w
  clear h
  generalize seqOkB (Sq.P (a, b, c)) = Z at *
  generalize nameB a.data.toList = A at *
  generalize noteB b.data.toList = B at *
  generalize letN c.data.toList = n at *
  by_cases hn : n = c.size
  · subst hn
    have hd : ((c.size : Int) == (c.size : Int)) = true := by simp
    by_cases h1 : 1 ≤ c.size
    · have d1 : decide ((c.size : Int) ≥ 1) = true := by simp; omega
      by_cases h2 : c.size ≤ 65536
      · have d2 : decide ((c.size : Int) ≤ 65536) = true := by simp; omega
        simp only [h1, h2, decide_true, Bool.and_true] at HE
        go_enter Tryz.func40, Tryz.ntmps40
        go_wp2_with (first
          | (go_at_call 46; refine (H1.out _).mono ?_; rintro e w' ⟨rfl, rfl⟩; clear H1)
          | (go_at_call 71; refine (H2.out _).mono ?_; rintro e w' ⟨rfl, rfl⟩; clear H2)
          | (go_at_call 47; refine (H3.out _).mono ?_; rintro e w' ⟨rfl, rfl⟩; clear H3))
        all_goals (go_ret; refine ⟨ret_bool ?_, HN.out _⟩; rw [HE.out]; clear HE HN; simp_all)
      · have d2 : decide ((c.size : Int) ≤ 65536) = false := by simp; omega
        simp only [h1, h2, decide_true, decide_false, Bool.and_false] at HE
        go_enter Tryz.func40, Tryz.ntmps40
        go_wp2_with (first
          | (go_at_call 46; refine (H1.out _).mono ?_; rintro e w' ⟨rfl, rfl⟩; clear H1)
          | (go_at_call 71; refine (H2.out _).mono ?_; rintro e w' ⟨rfl, rfl⟩; clear H2)
          | (go_at_call 47; refine (H3.out _).mono ?_; rintro e w' ⟨rfl, rfl⟩; clear H3))
        all_goals (go_ret; refine ⟨ret_bool ?_, HN.out _⟩; rw [HE.out])
    · have d1 : decide ((c.size : Int) ≥ 1) = false := by simp; omega
      simp only [h1, decide_false, Bool.and_false, Bool.false_and] at HE
      go_enter Tryz.func40, Tryz.ntmps40
      go_wp2_with (first
        | (go_at_call 46; refine (H1.out _).mono ?_; rintro e w' ⟨rfl, rfl⟩; clear H1)
        | (go_at_call 71; refine (H2.out _).mono ?_; rintro e w' ⟨rfl, rfl⟩; clear H2)
        | (go_at_call 47; refine (H3.out _).mono ?_; rintro e w' ⟨rfl, rfl⟩; clear H3))
      all_goals (go_ret; refine ⟨ret_bool ?_, HN.out _⟩; rw [HE.out])
  · have hd : ((n : Int) == (c.size : Int)) = false := by rw [beq_eq_false_iff_ne]; omega
    simp only [hn, decide_false, Bool.and_false, Bool.false_and] at HE
    go_enter Tryz.func40, Tryz.ntmps40
    go_wp2_with (first
      | (go_at_call 46; refine (H1.out _).mono ?_; rintro e w' ⟨rfl, rfl⟩; clear H1)
      | (go_at_call 71; refine (H2.out _).mono ?_; rintro e w' ⟨rfl, rfl⟩; clear H2)
      | (go_at_call 47; refine (H3.out _).mono ?_; rintro e w' ⟨rfl, rfl⟩; clear H3))
    all_goals (go_ret; refine ⟨ret_bool ?_, HN.out _⟩; rw [HE.out])

/-! Names and lengths, in lists of their own -/
structure StrsAt (w : World) (ao : Option Addr) (len : Nat) (ls : List ByteArray) : Prop where
  length : ls.length = len
  short : len ≤ 64
  cells : 0 < len → ∃ b off, ao = some ⟨b, off, none⟩ ∧ ∀ i s, ls[i]? = some s → w.cell? ⟨b, off + i, none⟩ = some (.string s)
theorem StrsAt.below {w w' : World} {ao : Option Addr} {len : Nat} {ls : List ByteArray} (h : StrsAt w ao len ls) (hb : Below w.heap.size w w') : StrsAt w' ao len ls := by
  refine ⟨h.length, h.short, fun h0 => ?_⟩
  obtain ⟨b, off, e, hc⟩ := h.cells h0
  refine ⟨b, off, e, fun i q hi => ?_⟩
  have h1 := hc i q hi
  rw [hb.cell (World.block_lt_of_cell? w _ h1)]; exact h1
structure IntsAt (w : World) (ao : Option Addr) (len : Nat) (ls : List Int) : Prop where
  length : ls.length = len
  short : len ≤ 64
  cells : 0 < len → ∃ b off, ao = some ⟨b, off, none⟩ ∧ ∀ i s, ls[i]? = some s → w.cell? ⟨b, off + i, none⟩ = some (.int .i64 s)
theorem IntsAt.below {w w' : World} {ao : Option Addr} {len : Nat} {ls : List Int} (h : IntsAt w ao len ls) (hb : Below w.heap.size w w') : IntsAt w' ao len ls := by
  refine ⟨h.length, h.short, fun h0 => ?_⟩
  obtain ⟨b, off, e, hc⟩ := h.cells h0
  refine ⟨b, off, e, fun i q hi => ?_⟩
  have h1 := hc i q hi
  rw [hb.cell (World.block_lt_of_cell? w _ h1)]; exact h1
def intVals (ls : List Int) : List Value := ls.map fun s => .int .i64 s
theorem intVals_snoc (ls : List Int) (s : Int) : intVals (ls ++ [s]) = intVals ls ++ [.int .i64 s] := by simp [intVals]
theorem owned_strs {w : World} {base : Nat} {ao : Option Addr} {n cap : Nat} {ls : List ByteArray} (h : w.ownsRow base 9 1 (.slice ao n cap) n (strVals ls)) (hn : n ≤ 64) : StrsAt w ao n ls := by
  have hl : ls.length = n := by have := h.1; simpa [strVals] using this
  refine ⟨hl, hn, fun h0 => ?_⟩
  obtain ⟨g, cap', he, _⟩ := owned_some h h0
  cases he
  refine ⟨g, 0, rfl, fun i s hi => ?_⟩
  have := (owned_cells h i (.string s) (by simp [strVals, hi])).1
  simpa using this
theorem owned_ints {w : World} {base : Nat} {ao : Option Addr} {n cap : Nat} {ls : List Int} (h : w.ownsRow base 3 1 (.slice ao n cap) n (intVals ls)) (hn : n ≤ 64) : IntsAt w ao n ls := by
  have hl : ls.length = n := by have := h.1; simpa [intVals] using this
  refine ⟨hl, hn, fun h0 => ?_⟩
  obtain ⟨g, cap', he, _⟩ := owned_some h h0
  cases he
  refine ⟨g, 0, rfl, fun i s hi => ?_⟩
  have := (owned_cells h i (.int .i64 s) (by simp [intVals, hi])).1
  simpa using this

/-- What place leaves. -/
def PlacePost (fs : List Rv) (n : List UInt8) (w : World) (e : Ending) (w' : World) : Prop :=
  ∃ z : Int, e = .returned (.int .i64 z) ∧ ((z < 0 ∧ findB (fs.map Rv.P) n = none) ∨ ∃ (k : Nat) (f : Rv), z = k ∧ fs[k]? = some f ∧ findB (fs.map Rv.P) n = some f.P) ∧ w' = w
set_option maxRecDepth 20000 in
set_option maxHeartbeats 2000000 in
theorem place_calls (ao : Option Addr) (len cap : Nat) (fs : List Rv) (name : ByteArray) (w : World) (hz : StrsAt w ao len (fs.map (·.1))) :
    Calls Tryz.prog 41 #[.slice ao len cap, .string name] w fun e w' => PlacePost fs name.data.toList w e w' := by
  have hlm := hz.short
  have HZL : Hid (fs.length = len) := by show fs.length = len; have := hz.length; simpa using this
  have HZ : Hid (StrsAt w ao len (fs.map (·.1))) := hz
  clear hz
  go_enter Tryz.func41, Tryz.ntmps41
  go_wp2
  go_loopw [5] (fun i wr => ∃ k : Nat, k ≤ len ∧ i = .int .i64 k ∧ wr = w ∧ ∀ g ∈ fs.take k, g.1.data.toList ≠ name.data.toList) (fun i _ => len - (intOf i).toNat)
  case atStart => exact ⟨0, Nat.zero_le _, rfl, rfl, by simp⟩
  case round =>
    obtain ⟨k, hk, rfl, hw, hno⟩ := hrel
    subst hw
    have HNo : Hid (∀ g ∈ fs.take k, g.1.data.toList ≠ name.data.toList) := hno
    clear hno
    by_cases hlt : k < len
    · have hdk : decide ((k : Int) < (len : Int)) = true := by simp; omega
      obtain ⟨b, off, rfl, hcs⟩ := HZ.out.cells (by omega)
      obtain ⟨f, hf⟩ : ∃ f, fs[k]? = some f := ⟨_, List.getElem?_eq_getElem (by rw [HZL.out]; exact hlt)⟩
      have hc1 := hcs k f.1 (by simp [hf])
      by_cases he : f.1.toList = name.toList
      · have HE : Hid (PlacePost fs name.data.toList wr (.returned (.int .i64 k)) wr) := ⟨k, rfl, .inr ⟨k, f, rfl, hf, find_take hf HNo.out (by rw [ByteArray.toList_eq, ByteArray.toList_eq] at he; exact he)⟩, rfl⟩
        have hd2 : (f.1.toList == name.toList) = true := by rw [beq_iff_eq]; exact he
        clear hf HNo hcs
        go_wp2
        go_ret
        exact HE.out
      · have hd2 : (f.1.toList == name.toList) = false := by rw [beq_eq_false_iff_ne]; exact he
        have HN2 : Hid (∀ g ∈ fs.take (k + 1), g.1.data.toList ≠ name.data.toList) := by
          obtain ⟨hl, hee⟩ := List.getElem?_eq_some_iff.1 hf
          intro g hg
          rw [List.take_succ_eq_append_getElem hl, hee] at hg
          rcases List.mem_append.1 hg with hg | hg
          · exact HNo.out g hg
          · simp at hg; subst hg; rw [ByteArray.toList_eq, ByteArray.toList_eq] at he; exact he
        clear hf HNo hcs
        go_wp2
        go_roundw
        case rel => exact ⟨k + 1, by omega, by go_num, trivial, HN2.out⟩
        case measure => simp [intOf]; omega
    · have hdk : decide ((k : Int) < (len : Int)) = false := by simp; omega
      have HE : Hid (PlacePost fs name.data.toList wr (.returned (.int .i64 (-1))) wr) := ⟨-1, rfl, .inl ⟨by decide, find_none (by
        have := HNo.out
        rwa [List.take_of_length_le (by rw [HZL.out]; omega)] at this)⟩, rfl⟩
      go_wp2
      go_ret
      exact HE.out

theorem fits_ref {fs : List Rv} {r : Rec} (h : rightR r = true) (hm : r.mapped = true) : fitsB (fs.map Rv.P) r = match findB (fs.map Rv.P) r.ref with | none => false | some f => decide (r.pos - 1 + (spansA r.runs).1 ≤ f.2) := by
  have h2 := rightR_map h hm
  unfold fitsB
  rw [if_pos hm, show spansA r.runs = (refB r.runs, readB r.runs, 0) by rw [spansA, if_pos h2.runs]]
  cases findB (fs.map Rv.P) r.ref <;> rfl
set_option maxRecDepth 20000 in
set_option maxHeartbeats 4000000 in
theorem refFits_calls (no lo : Option Addr) (len nc lc : Nat) (fs : List Rv) (v : RV) (l : List Rn) (w : World) (hn : StrsAt w no len (fs.map (·.1))) (hi : IntsAt w lo len (fs.map (·.2))) (h : RecOk w v l) (hf : ∀ f ∈ fs, rvOk f) :
    Calls Tryz.prog 42 #[.slice no len nc, .slice lo len lc, v.val] w fun e w' => e = .returned (.bool (rightR (v.R l) && fitsB (fs.map Rv.P) (v.R l))) ∧ Below w.heap.size w w' := by
  obtain ⟨nm, m, rf, p, ao, rl, rc, b, q, s⟩ := v
  have HR : Hid (∀ W, Below w.heap.size w W → Calls Tryz.prog 26 #[.agg #[.string nm, .bool m, .string rf, .int .i64 p, .slice ao rl rc, .string b, .string q, .int .i64 s]] W fun e w' => e = .returned (.bool (rightR ((⟨nm, m, rf, p, ao, rl, rc, b, q, s⟩ : RV).R l))) ∧ Below W.heap.size W w') := fun W hW => refRec_calls ⟨nm, m, rf, p, ao, rl, rc, b, q, s⟩ l W (h.below hW)
  have HP : Hid (∀ W, Below w.heap.size w W → Calls Tryz.prog 41 #[.slice no len nc, .string rf] W fun e w' => PlacePost fs rf.data.toList W e w') := fun W hW => place_calls no len nc fs rf W (hn.below hW)
  have HSp : Hid (∀ W, Below w.heap.size w W → Calls Tryz.prog 49 #[.slice ao rl rc] W fun e w' => e = .returned (spansV (spansA l)) ∧ Below W.heap.size W w') := fun W hW => refSpans_calls ao rl rc l W (h.runs.below hW)
  have HI : Hid (IntsAt w lo len (fs.map (·.2))) := hi
  have HF : Hid (∀ f ∈ fs, rvOk f) := hf
  have hlm := hi.short
  have HFL : Hid (fs.length = len) := by show fs.length = len; have := hi.length; simpa using this
  have hpf := h.pos
  unfold fitI at hpf
  simp only at hpf
  clear hn hi h hf
  simp only [RV.val]
  have HZ0 : Hid (∀ Z, Z = (rightR ((⟨nm, m, rf, p, ao, rl, rc, b, q, s⟩ : RV).R l) && fitsB (fs.map Rv.P) ((⟨nm, m, rf, p, ao, rl, rc, b, q, s⟩ : RV).R l)) → Z = (rightR ((⟨nm, m, rf, p, ao, rl, rc, b, q, s⟩ : RV).R l) && fitsB (fs.map Rv.P) ((⟨nm, m, rf, p, ao, rl, rc, b, q, s⟩ : RV).R l))) := fun _ h => h
  generalize hZ0 : (rightR ((⟨nm, m, rf, p, ao, rl, rc, b, q, s⟩ : RV).R l) && fitsB (fs.map Rv.P) ((⟨nm, m, rf, p, ao, rl, rc, b, q, s⟩ : RV).R l)) = Z at *
  have HZe : Hid ((rightR ((⟨nm, m, rf, p, ao, rl, rc, b, q, s⟩ : RV).R l) && fitsB (fs.map Rv.P) ((⟨nm, m, rf, p, ao, rl, rc, b, q, s⟩ : RV).R l)) = Z) := hZ0
  clear hZ0 HZ0
  have HX : Hid (Below w.heap.size w (w.alloc (.cells #[.string nm, .bool m, .string rf, .int .i64 p, .slice ao rl rc, .string b, .string q, .int .i64 s] 24)) ∧ (w.alloc (.cells #[.string nm, .bool m, .string rf, .int .i64 p, .slice ao rl rc, .string b, .string q, .int .i64 s] 24)).heap[w.heap.size]? = some (.cells #[.string nm, .bool m, .string rf, .int .i64 p, .slice ao rl rc, .string b, .string q, .int .i64 s] 24 (0, 0))) := ⟨below_new _ _, heap_alloc_new w _⟩
  go_enter Tryz.func42, Tryz.ntmps42
  go_wp2_with fail
  refine (HR.out _ HX.out.1).mono ?_
  rintro e w1 ⟨rfl, hb1⟩
  have HJ : Hid (Below w.heap.size w w1 ∧ w1.heap[w.heap.size]? = some (.cells #[.string nm, .bool m, .string rf, .int .i64 p, .slice ao rl rc, .string b, .string q, .int .i64 s] 24 (0, 0))) := ⟨HX.out.1.trans (hb1.mono HX.out.1.size), keepB HX.out.2 hb1⟩
  clear hb1 HX HR
  have z1 := cellB HJ.out.2 (i := 1) rfl
  have z2 := cellB HJ.out.2 (i := 2) rfl
  have z4 := cellB HJ.out.2 (i := 4) rfl
  cases hright : rightR ((⟨nm, m, rf, p, ao, rl, rc, b, q, s⟩ : RV).R l) with
  | false =>
    have HZf : Hid (Z = false) := by show _ = _; rw [← HZe.out, hright]; rfl
    clear hright HZe
    go_wp2
    go_ret
    exact ⟨ret_bool HZf.out.symm, HJ.out.1⟩
  | true =>
  cases m with
  | false =>
    have HE : Hid (Z = true) := by show _ = _; rw [← HZe.out, hright]; simp [fitsB, RV.R]
    clear hright HZe
    go_wp2
    go_ret
    exact ⟨ret_bool HE.out.symm, HJ.out.1⟩
  | true =>
  have HE : Hid (Z = match findB (fs.map Rv.P) rf.data.toList with | none => false | some f => decide (p - 1 + (spansA l).1 ≤ f.2)) := by
    show _ = _
    rw [← HZe.out, hright, Bool.true_and]
    exact fits_ref hright rfl
  clear HZe
  have hmap := rightR_map hright rfl
  have hmr : rightB l = true := hmap.runs
  have hsp : spansA l = (refB l, readB l, 0) := by rw [spansA, if_pos hmr]
  have hp1 : 1 ≤ p := hmap.pos
  have hp2 : p - 1 + (spansA l).1 ≤ 65536 := by rw [hsp]; exact hmap.ends
  have hp3 := (spansA_bounds l).1
  have hSp2 : spansV (spansA l) = .tuple #[.int .i64 (spansA l).1, .int .i64 (spansA l).2.1, .int .i64 (spansA l).2.2] := rfl
  rw [hSp2] at HSp
  generalize (spansA l).1 = X at *
  generalize (spansA l).2.1 = Y at *
  generalize (spansA l).2.2 = YY at *
  clear hright hmap hsp hSp2 hmr
  go_wp2_with fail
  refine (HP.out _ HJ.out.1).mono ?_
  rintro e w2 ⟨at_, rfl, hat, rfl⟩
  have HAt : Hid _ := hat
  clear hat HP
  go_wp2_with fail
  refine (HSp.out _ HJ.out.1).mono ?_
  rintro e w3 ⟨rfl, hb3⟩
  have HJ3 : Hid (Below w.heap.size w w3 ∧ w3.heap[w.heap.size]? = some (.cells #[.string nm, .bool true, .string rf, .int .i64 p, .slice ao rl rc, .string b, .string q, .int .i64 s] 24 (0, 0))) := ⟨HJ.out.1.trans (hb3.mono HJ.out.1.size), keepB HJ.out.2 hb3⟩
  clear hb3 HJ HSp z1 z2 z4
  have z3 := cellB HJ3.out.2 (i := 3) rfl
  rcases HAt.out with ⟨hneg, hnone⟩ | ⟨k, f, hk, hfk, hfind⟩
  · have HZ : Hid (Z = false) := by show _ = _; rw [HE.out, hnone]
    have hd : decide (at_ ≥ 0) = false := by simp; omega
    clear HAt hnone HE
    go_wp2_with fail
    go_quiet (fail)
    have HBq : Hid (Below w.heap.size w (w3.drewN nq)) := below_drewN HJ3.out.1 nq
    generalize w3.drewN nq = wz at *
    go_wp2
    go_ret
    exact ⟨ret_bool HZ.out.symm, HBq.out⟩
  · have HZ : Hid (Z = decide (p - 1 + X ≤ f.2)) := by show _ = _; rw [HE.out, hfind]; rfl
    have hkl : k < len := by have := (List.getElem?_eq_some_iff.1 hfk).1; rw [HFL.out] at this; exact this
    obtain ⟨b2, off2, rfl, hcs⟩ := (HI.out.below HJ3.out.1).cells (by omega)
    have c1 := hcs k f.2 (by simp [hfk])
    obtain ⟨hf1, hf2, hf3⟩ := HF.out f (List.mem_of_getElem? hfk)
    have hd : decide (at_ ≥ 0) = true := by simp; omega
    have hkn : (k : Int) < (len : Int) := by omega
    subst hk
    have hk0 : (0 : Int) ≤ (k : Int) := by omega
    clear HAt hfind HE hfk hcs
    go_wp2_with fail
    go_quiet (fail)
    have HBq : Hid (Below w.heap.size w (w3.drewN nq)) := below_drewN HJ3.out.1 nq
    generalize w3.drewN nq = wz at *
    go_wp2
    go_ret
    exact ⟨ret_bool HZ.out.symm, HBq.out⟩
theorem info3 : (Tryz.prog.info? 3).map (fun i => (i.zero, i.size, i.bytes)) = some (some (.int .i64 0), 1, 8) := by kernel_rfl
theorem cell_int_new (W : World) (z : Int) : ∀ (i : Nat) (u : Value), [Value.int .i64 z][i]? = some u → (W.alloc (.cells #[.int .i64 z] 3)).cell? ((⟨W.heap.size, 0, none⟩ : Addr).add i) = some u := by
  intro i u hu
  match i, hu with
  | 0, hu => simp at hu; subst hu; simp [Addr.add]
theorem int_one (z : Int) : ∀ u ∈ [Value.int .i64 z], u.oneCell' = true := by
  intro u hu; simp at hu; subst hu; rfl
end Go.Proofs.YtdhphipdpjhhbaaGreatDoor
