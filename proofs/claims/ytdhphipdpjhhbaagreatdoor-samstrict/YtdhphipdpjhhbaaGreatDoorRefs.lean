/-
  References in memory; the walks of sam's find, fits, line of a reference, of MayBeWritten.
-/
import Derived.Test.YtdhphipdpjhhbaaGreatDoorReadF
namespace Go.Proofs.YtdhphipdpjhhbaaGreatDoor
open Go.RowKit

/-- A reference as a value. -/
abbrev Rv := ByteArray × Int
def Rv.P (f : Rv) : Rf := (f.1.data.toList, f.2)
def rvOk (f : Rv) : Prop := f.1.size ≤ 1048576 ∧ 0 ≤ f.2 ∧ f.2 ≤ 65536
structure RefsAt (w : World) (ao : Option Addr) (len : Nat) (fs : List Rv) : Prop where
  length : fs.length = len
  short : len ≤ 64
  fine : ∀ f ∈ fs, rvOk f
  cells : 0 < len → ∃ b off, ao = some ⟨b, off, none⟩ ∧ ∀ i f, fs[i]? = some f → w.cell? ⟨b, off + i * 2, none⟩ = some (.string f.1) ∧ w.cell? ⟨b, off + i * 2 + 1, none⟩ = some (.int .i64 f.2)
theorem RefsAt.below {w w' : World} {ao : Option Addr} {len : Nat} {fs : List Rv} (h : RefsAt w ao len fs) (hb : Below w.heap.size w w') : RefsAt w' ao len fs := by
  refine ⟨h.length, h.short, h.fine, fun h0 => ?_⟩
  obtain ⟨b, off, e, hc⟩ := h.cells h0
  refine ⟨b, off, e, fun i q hi => ?_⟩
  obtain ⟨h1, h2⟩ := hc i q hi
  exact ⟨by rw [hb.cell (World.block_lt_of_cell? w _ h1)]; exact h1, by rw [hb.cell (World.block_lt_of_cell? w _ h2)]; exact h2⟩
def FindPost (o : Option Rf) (w : World) (e : Ending) (w' : World) : Prop :=
  ∃ (n : ByteArray) (z : Int), e = .returned (.tuple #[.agg #[.string n, .int .i64 z], .bool o.isSome]) ∧ (∀ x, o = some x → n.data.toList = x.1 ∧ z = x.2) ∧ Below w.heap.size w w'
theorem find_take {fs : List Rv} {k : Nat} {f : Rv} {n : List UInt8} (hf : fs[k]? = some f) (h : ∀ g ∈ fs.take k, g.1.data.toList ≠ n) (hn : f.1.data.toList = n) : findB (fs.map Rv.P) n = some f.P := by
  obtain ⟨hlt, he⟩ := List.getElem?_eq_some_iff.1 hf
  have hs : fs = fs.take k ++ f :: fs.drop (k + 1) := by rw [← he, ← List.drop_eq_getElem_cons hlt, List.take_append_drop]
  rw [hs]
  unfold findB
  rw [List.map_append, List.find?_append]
  have h1 : List.find? (fun g => decide (g.1 = n)) ((fs.take k).map Rv.P) = none := by
    rw [List.find?_eq_none]
    intro x hx
    obtain ⟨g, hg, rfl⟩ := List.mem_map.1 hx
    show ¬ decide (g.P.1 = n) = true
    rw [decide_eq_true_eq]; exact h g hg
  rw [h1, List.map_cons, List.find?_cons]
  simp [Rv.P, hn]
theorem find_none {fs : List Rv} {n : List UInt8} (h : ∀ g ∈ fs, g.1.data.toList ≠ n) : findB (fs.map Rv.P) n = none := by
  rw [findB_none]
  intro hm
  simp only [List.map_map, List.mem_map, Function.comp] at hm
  obtain ⟨g, hg, e⟩ := hm
  exact h g hg e

set_option maxRecDepth 20000 in
set_option maxHeartbeats 2000000 in
theorem find_calls (ao : Option Addr) (len cap : Nat) (fs : List Rv) (name : ByteArray) (w : World) (hz : RefsAt w ao len fs) :
    Calls Tryz.prog 65 #[.slice ao len cap, .string name] w fun e w' => FindPost (findB (fs.map Rv.P) name.data.toList) w e w' := by
  have hres : Tryz.f65.results = #[.cell 4 83, .tmp 5] := by kernel_rfl
  have hlm := hz.short
  have HZL : Hid (fs.length = len) := hz.length
  have HZ : Hid (RefsAt w ao len fs) := hz
  clear hz
  go_enter Tryz.func65, Tryz.ntmps65
  go_wp2
  generalize hwx : w.alloc (.cells #[.string ⟨#[]⟩, .int .i64 0] 83) = wx
  have HX : Hid (Below w.heap.size w wx ∧ wx.heap[w.heap.size]? = some (.cells #[.string ⟨#[]⟩, .int .i64 0] 83 (0, 0))) := by
    subst hwx; exact ⟨below_new _ _, heap_alloc_new w _⟩
  clear hwx
  go_loopw [10] (fun i wr => ∃ k : Nat, k ≤ len ∧ i = .int .i64 k ∧ Below w.heap.size w wr ∧ wr.heap[w.heap.size]? = some (.cells #[.string ⟨#[]⟩, .int .i64 0] 83 (0, 0)) ∧ ∀ g ∈ fs.take k, g.1.data.toList ≠ name.data.toList) (fun i _ => len - (intOf i).toNat)
  case atStart => exact ⟨0, Nat.zero_le _, rfl, HX.out.1, HX.out.2, by simp⟩
  case round =>
    obtain ⟨k, hk, rfl, hbel, hans, hno⟩ := hrel
    have HB : Hid (Below w.heap.size w wr ∧ wr.heap[w.heap.size]? = some (.cells #[.string ⟨#[]⟩, .int .i64 0] 83 (0, 0))) := ⟨hbel, hans⟩
    have HNo : Hid (∀ g ∈ fs.take k, g.1.data.toList ≠ name.data.toList) := hno
    clear hbel hans hno HX
    by_cases hlt : k < len
    · have hdk : decide ((k : Int) < (len : Int)) = true := by simp; omega
      obtain ⟨b, off, rfl, hcs⟩ := (HZ.out.below HB.out.1).cells (by omega)
      obtain ⟨f, hf⟩ : ∃ f, fs[k]? = some f := ⟨_, List.getElem?_eq_getElem (by rw [HZL.out]; exact hlt)⟩
      obtain ⟨hc1, hc2⟩ := hcs k f hf
      obtain ⟨hf1, hf2, hf3⟩ := HZ.out.fine f (List.mem_of_getElem? hf)
      have hA : ∀ o, (wr.alloc o).cell? ⟨w.heap.size, 0, none⟩ = some (.string ⟨#[]⟩) := fun o => cellB (keepB HB.out.2 (below_new wr o)) rfl
      have hA2 : ∀ o, (wr.alloc o).cell? ⟨w.heap.size, 1, none⟩ = some (.int .i64 0) := fun o => cellB (keepB HB.out.2 (below_new wr o)) rfl
      have hF : ∀ o i, (wr.alloc o).frozen? ⟨w.heap.size, i, none⟩ = false := fun o i => freeB (keepB HB.out.2 (below_new wr o)) i
      by_cases he : f.1.toList = name.toList
      · have HE : Hid (findB (fs.map Rv.P) name.data.toList = some f.P) := find_take hf HNo.out (by rw [ByteArray.toList_eq, ByteArray.toList_eq] at he; exact he)
        have hd2 : (f.1.toList == name.toList) = true := by rw [beq_iff_eq]; exact he
        clear hf HNo hcs
        go_wp2
        refine bodyPost_ret (v := .tuple #[.agg #[.string f.1, .int .i64 f.2], .bool true]) ?_ rfl ⟨f.1, f.2, by rw [HE.out]; rfl, fun x hx => ?_, ?_⟩
        · simp only [results, hres]
          go_simp
        · rw [HE.out] at hx; cases hx; exact ⟨rfl, rfl⟩
        · exact ((HB.out.1.alloc HB.out.1.size _).setCell (Nat.le_refl _) _).setCell (Nat.le_refl _) _
      · have hd2 : (f.1.toList == name.toList) = false := by rw [beq_eq_false_iff_ne]; exact he
        have HN2 : Hid (∀ g ∈ fs.take (k + 1), g.1.data.toList ≠ name.data.toList) := by
          obtain ⟨hl, hee⟩ := List.getElem?_eq_some_iff.1 hf
          intro g hg
          rw [List.take_succ_eq_append_getElem hl, hee] at hg
          rcases List.mem_append.1 hg with hg | hg
          · exact HNo.out g hg
          · simp at hg; subst hg; rw [ByteArray.toList_eq, ByteArray.toList_eq] at he; exact he
        have HBo : Hid (∀ o, Below w.heap.size w (wr.alloc o) ∧ (wr.alloc o).heap[w.heap.size]? = some (.cells #[.string ⟨#[]⟩, .int .i64 0] 83 (0, 0))) := fun o => ⟨HB.out.1.alloc HB.out.1.size o, keepB HB.out.2 (below_new wr o)⟩
        clear hf HNo hcs hA hA2 hF
        go_wp2
        go_roundw
        case rel => exact ⟨k + 1, by omega, by go_num, (HBo.out _).1, (HBo.out _).2, HN2.out⟩
        case measure => simp [intOf]; omega
    · have hdk : decide ((k : Int) < (len : Int)) = false := by simp; omega
      have HE : Hid (findB (fs.map Rv.P) name.data.toList = none) := find_none (by
        have := HNo.out
        rwa [List.take_of_length_le (by rw [HZL.out]; omega)] at this)
      have hA : wr.cell? ⟨w.heap.size, 0, none⟩ = some (.string ⟨#[]⟩) := cellB HB.out.2 rfl
      have hA2 : wr.cell? ⟨w.heap.size, 1, none⟩ = some (.int .i64 0) := cellB HB.out.2 rfl
      have hF : ∀ i, wr.frozen? ⟨w.heap.size, i, none⟩ = false := freeB HB.out.2
      go_wp2
      refine bodyPost_ret (v := .tuple #[.agg #[.string ⟨#[]⟩, .int .i64 0], .bool false]) ?_ rfl ⟨⟨#[]⟩, 0, by rw [HE.out]; rfl, fun x hx => ?_, ?_⟩
      · simp only [results, hres]
        go_simp
      · rw [HE.out] at hx; cases hx
      · exact (HB.out.1.setCell (Nat.le_refl _) _).setCell (Nat.le_refl _) _

theorem fitsB_map {refs : List Rf} {r : Rec} (h : r.mapped = true) (hr : rightB r.runs = true) : fitsB refs r = match findB refs r.ref with | none => false | some f => endsB r f.2 := by
  unfold fitsB endsB
  rw [if_pos h]
  cases findB refs r.ref with
  | none => rfl
  | some f =>
    simp only
    have : spansA r.runs = (refB r.runs, readB r.runs, 0) := by rw [spansA, if_pos hr]
    rw [this, decide_eq_decide]
    omega

set_option maxRecDepth 20000 in
set_option maxHeartbeats 2000000 in
theorem fits_calls (ao : Option Addr) (len cap : Nat) (fs : List Rv) (v : RV) (l : List Rn) (w : World) (hz : RefsAt w ao len fs) (h : RecOk w v l) (hr : rightR (v.R l) = true) :
    Calls Tryz.prog 38 #[.slice ao len cap, v.val] w fun e w' => e = .returned (.bool (fitsB (fs.map Rv.P) (v.R l))) ∧ Below w.heap.size w w' := by
  have HF : Hid (∀ W, Below w.heap.size w W → Calls Tryz.prog 65 #[.slice ao len cap, .string v.ref] W fun e w' => FindPost (findB (fs.map Rv.P) v.ref.data.toList) W e w') := fun W hW => find_calls ao len cap fs v.ref W (hz.below hW)
  have HEn : Hid (∀ W n, Below w.heap.size w W → 1 ≤ v.pos → 0 ≤ n ∧ n ≤ 65536 → Calls Tryz.prog 54 #[v.val, .int .i64 n] W fun e w' => e = .returned (.bool (endsB (v.R l) n)) ∧ Below W.heap.size W w') := fun W n hW hp hn => endsWithin_calls v l n W (h.below hW) hp hn
  have HFine : Hid (∀ x, findB (fs.map Rv.P) v.ref.data.toList = some x → 0 ≤ x.2 ∧ x.2 ≤ 65536) := fun x hx => by
    obtain ⟨hm, _⟩ := findB_spec hx
    obtain ⟨f, hf, rfl⟩ := List.mem_map.1 hm
    exact (hz.fine f hf).2
  cases hm : v.mapped with
  | false =>
    have HE : Hid (fitsB (fs.map Rv.P) (v.R l) = true) := by
      show fitsB _ _ = true
      unfold fitsB; rw [if_neg (by show ¬ v.mapped = true; rw [hm]; decide)]
    obtain ⟨nm, m, rf, p, ao', len', cap', b, q, s⟩ := v
    simp only at hm
    subst hm
    clear HF HEn HFine hz h hr
    simp only [RV.val]
    go_enter Tryz.func38, Tryz.ntmps38
    go_wp2
    go_ret
    exact ⟨ret_bool HE.out.symm, below_new _ _⟩
  | true =>
    have hmo := rightR_map hr hm
    have hpos : 1 ≤ v.pos := hmo.pos
    have HE : Hid (fitsB (fs.map Rv.P) (v.R l) = match findB (fs.map Rv.P) v.ref.data.toList with | none => false | some f => endsB (v.R l) f.2) := fitsB_map (by exact hm) hmo.runs
    obtain ⟨nm, m, rf, p, ao', len', cap', b, q, s⟩ := v
    simp only at hm hpos
    subst hm
    clear hz h hr hmo
    simp only [RV.val] at *
    go_enter Tryz.func38, Tryz.ntmps38
    go_wp2_with fail
    refine (HF.out _ (below_new _ _)).mono ?_
    rintro e w1 ⟨n, z, rfl, hx, hb1⟩
    have HB1 : Hid (Below w.heap.size w w1) := below_box hb1
    have hbx := keepB (heap_alloc_new w _) hb1
    have HBa : Hid (∀ o, Below w.heap.size w (w1.alloc o)) := fun o => HB1.out.alloc HB1.out.size o
    cases ho : findB (fs.map Rv.P) rf.data.toList with
    | none =>
      rw [ho] at HE
      have HE2 : Hid (fitsB (fs.map Rv.P) ((⟨nm, true, rf, p, ao', len', cap', b, q, s⟩ : RV).R l) = false) := HE.out
      clear HF HEn HFine hx hb1 ho HE hbx
      go_wp2
      go_ret
      exact ⟨ret_bool HE2.out.symm, HBa.out _⟩
    | some x =>
      rw [ho] at HE hx
      obtain ⟨_, rfl⟩ := hx x rfl
      have hx2 := HFine.out x ho
      have HE2 : Hid (fitsB (fs.map Rv.P) ((⟨nm, true, rf, p, ao', len', cap', b, q, s⟩ : RV).R l) = endsB ((⟨nm, true, rf, p, ao', len', cap', b, q, s⟩ : RV).R l) x.2) := HE.out
      have HEn2 : Hid (∀ W, Below w.heap.size w W → Calls Tryz.prog 54 #[.agg #[.string nm, .bool true, .string rf, .int .i64 p, .slice ao' len' cap', .string b, .string q, .int .i64 s], .int .i64 x.2] W fun e w' => e = .returned (.bool (endsB ((⟨nm, true, rf, p, ao', len', cap', b, q, s⟩ : RV).R l) x.2)) ∧ Below W.heap.size W w') := fun W hW => HEn.out W x.2 hW hpos hx2
      have c0 : ∀ o, (w1.alloc o).cell? ⟨w.heap.size, 0, none⟩ = some (.string nm) := fun o => cellB (keepB hbx (below_new w1 o)) rfl
      have c1 : ∀ o, (w1.alloc o).cell? ⟨w.heap.size, 1, none⟩ = some (.bool true) := fun o => cellB (keepB hbx (below_new w1 o)) rfl
      have c2 : ∀ o, (w1.alloc o).cell? ⟨w.heap.size, 2, none⟩ = some (.string rf) := fun o => cellB (keepB hbx (below_new w1 o)) rfl
      have c3 : ∀ o, (w1.alloc o).cell? ⟨w.heap.size, 3, none⟩ = some (.int .i64 p) := fun o => cellB (keepB hbx (below_new w1 o)) rfl
      have c4 : ∀ o, (w1.alloc o).cell? ⟨w.heap.size, 4, none⟩ = some (.slice ao' len' cap') := fun o => cellB (keepB hbx (below_new w1 o)) rfl
      have c5 : ∀ o, (w1.alloc o).cell? ⟨w.heap.size, 5, none⟩ = some (.string b) := fun o => cellB (keepB hbx (below_new w1 o)) rfl
      have c6 : ∀ o, (w1.alloc o).cell? ⟨w.heap.size, 6, none⟩ = some (.string q) := fun o => cellB (keepB hbx (below_new w1 o)) rfl
      have c7 : ∀ o, (w1.alloc o).cell? ⟨w.heap.size, 7, none⟩ = some (.int .i64 s) := fun o => cellB (keepB hbx (below_new w1 o)) rfl
      generalize endsB ((⟨nm, true, rf, p, ao', len', cap', b, q, s⟩ : RV).R l) x.2 = D at *
      clear HF HEn HFine hx hb1 ho HE hbx
      go_wp2_with fail
      refine (HEn2.out _ (HBa.out _)).mono ?_
      rintro e w2 ⟨rfl, hb2⟩
      have HB2 : Hid (Below w.heap.size w w2) := (HBa.out _).trans (hb2.mono (HBa.out _).size)
      clear hb2 HEn2
      go_wp2
      go_ret
      exact ⟨ret_bool HE2.out.symm, HB2.out⟩
end Go.Proofs.YtdhphipdpjhhbaaGreatDoor
