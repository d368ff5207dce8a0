/-
  The walk of code.
-/
import Derived.Test.YtignpgoicoojiaaDoorRdH
namespace Go.Proofs.YtignpgoicoojiaaDoor
open Go.RowKit

theorem own_kind {w w' : World} {B size n g : Nat} {e t : TypeId} {v : Value} {xs : List Value} {cs : Array Value} (h : w.ownsRow B e size v n xs) (hg : w.heap[g]? = some (.cells cs t (0, 0))) (hne : e ≠ t) (hk : w.grownBy w' (some g)) : w'.ownsRow B e size v n xs :=
  owned_of_block h fun k cur _ hc => hk.block k (lt_block hc) (fun e' => by cases e'; rw [hg] at hc; cases hc; exact hne rfl)
def ownS (c : Cd) (g1 g2 g3 g4 : Nat) : Ls := ⟨⟨some ⟨g1, 0, none⟩, c.table.length, c.table.length⟩, ⟨some ⟨g2, 0, none⟩, c.consts.length, c.consts.length⟩, ⟨some ⟨g3, 0, none⟩, c.cell.length, c.cell.length⟩, ⟨some ⟨g4, 0, none⟩, c.arrows.length, c.arrows.length⟩⟩
/-- A code in rows of one's own. -/
structure CdOwn (B : Nat) (W : World) (c : Cd) (g1 g2 g3 g4 : Nat) : Prop where
  t : W.ownsRow B 3 1 (.slice (some ⟨g1, 0, none⟩) c.table.length c.table.length) c.table.length (intVals c.table)
  k : W.ownsRow B 3 1 (.slice (some ⟨g2, 0, none⟩) c.consts.length c.consts.length) c.consts.length (intVals c.consts)
  i : W.ownsRow B 38 4 (.slice (some ⟨g3, 0, none⟩) c.cell.length c.cell.length) c.cell.length (qdVals c.cell)
  r : W.ownsRow B 40 4 (.slice (some ⟨g4, 0, none⟩) c.arrows.length c.arrows.length) c.arrows.length (qdVals c.arrows)
  ne : g1 ≠ g2
theorem CdOwn.at' {B : Nat} {W : World} {c : Cd} {g1 g2 g3 g4 : Nat} (h : CdOwn B W c g1 g2 g3 g4) : CdAt W c (ownS c g1 g2 g3 g4) := ⟨ints_owned h.t, ints_owned h.k, qds_owned h.i, qds_owned h.r⟩
theorem CdOwn.rd {B b : Nat} {W W' : World} {c : Cd} {g1 g2 g3 g4 : Nat} {s : ByteArray} {st : Sr} (h : CdOwn B W c g1 g2 g3 g4) (hr : Rd W b s st) (hg : W.grownBy W' (some b)) : CdOwn B W' c g1 g2 g3 g4 :=
  ⟨own_rd h.t (by decide) hr hg, own_rd h.k (by decide) hr hg, own_rd h.i (by decide) hr hg, own_rd h.r (by decide) hr hg, h.ne⟩
theorem CdOwn.box {B g : Nat} {W W' : World} {c : Cd} {g1 g2 g3 g4 : Nat} {cs : Array Value} (h : CdOwn B W c g1 g2 g3 g4) (hk : W.heap[g]? = some (.cells cs 26 (0, 0))) (hg : W.grownBy W' (some g)) : CdOwn B W' c g1 g2 g3 g4 :=
  ⟨own_kind h.t hk (by decide) hg, own_kind h.k hk (by decide) hg, own_kind h.i hk (by decide) hg, own_kind h.r hk (by decide) hg, h.ne⟩
theorem CdOwn.low {B : Nat} {W W' : World} {c : Cd} {g1 g2 g3 g4 : Nat} (h : CdOwn B W c g1 g2 g3 g4) (hb : Below W.heap.size W W') : CdOwn B W' c g1 g2 g3 g4 :=
  ⟨owned_below h.t hb, owned_below h.k hb, owned_below h.i hb, owned_below h.r hb, h.ne⟩
def hC (L : Nat) (l : List Int) (v6 v7 v8 v9 : Value) : Array Value := (.int .i64 (L : Int) :: (intVals l ++ [v6, v7, v8, v9])).toArray
theorem hC_set {L : Nat} {l : List Int} {m k : Nat} {z : Int} (hl : l.length = k) : (hC L (l ++ List.replicate (m + 1) 0) (.slice none 0 0) (.slice none 0 0) (.slice none 0 0) (.slice none 0 0)).setIfInBounds (k + 1) (.int .i64 z) = hC L (l ++ [z] ++ List.replicate m 0) (.slice none 0 0) (.slice none 0 0) (.slice none 0 0) (.slice none 0 0) := by
  unfold hC
  rw [List.setIfInBounds_toArray, List.set_cons_succ, List.set_append_left _ _ (by rw [intVals_length]; simp; omega), intVals_set, ← hl, set_mid]
theorem hC_get {L : Nat} {l : List Int} {m k : Nat} (hl : l.length = k) : (hC L (l ++ List.replicate (m + 1) 0) (.slice none 0 0) (.slice none 0 0) (.slice none 0 0) (.slice none 0 0))[k + 1]? = some (.int .i64 0) := by
  unfold hC
  rw [List.getElem?_toArray, List.getElem?_cons_succ, List.getElem?_append_left (by rw [intVals_length]; simp; omega), intVals, List.getElem?_map, List.getElem?_append_right (by omega), hl, Nat.sub_self]
  rfl
theorem upR_le {t : List UInt8} {m : Nat} {st : Sr} : (upR t (m : Int) st).1 ≤ m := by
  unfold upR
  split
  · exact Nat.zero_le _
  · rename_i h; simp only; omega
theorem five {l : List Int} (h : l.length = 5) : ∃ h0 h1 h2 h3 h4, l = [h0, h1, h2, h3, h4] := by
  match l, h with
  | [a, b, c, d, e], _ => exact ⟨a, b, c, d, e, rfl⟩
def CodeP (w : World) (b : Nat) (s : ByteArray) (st : Sr) (e : Ending) (w' : World) : Prop :=
  ∃ g1 g2 g3 g4, e = .returned (.agg (cdCells (codeR s.data.toList st).1 (ownS (codeR s.data.toList st).1 g1 g2 g3 g4))) ∧ CdOwn w.heap.size w' (codeR s.data.toList st).1 g1 g2 g3 g4 ∧ Rd w' b s (codeR s.data.toList st).2 ∧ w.grownBy w' (some b)

set_option maxRecDepth 10000 in
set_option maxHeartbeats 4000000 in
theorem code_calls (b : Nat) (s : ByteArray) (st : Sr) (w : World) (h : Rd w b s st) :
    Calls Tryd.prog 44 #[.pointer (some ⟨b, 0, none⟩)] w fun e w' => CodeP w b s st e w' := by
  have hbl : b < w.heap.size := lt_block h.box
  have HR : Hid (Rd w b s st) := h
  clear h
  obtain ⟨lr, hlr⟩ : ∃ r, upR s.data.toList 20 st = r := ⟨_, rfl⟩
  obtain ⟨hr, hhr⟩ : ∃ r, numsR s.data.toList 5 lr.2 = r := ⟨_, rfl⟩
  obtain ⟨tr, htr⟩ : ∃ r, numsR s.data.toList (lr.1 * lr.1) hr.2 = r := ⟨_, rfl⟩
  obtain ⟨kn, hkn⟩ : ∃ r, upR s.data.toList 100 tr.2 = r := ⟨_, rfl⟩
  obtain ⟨kr, hkr⟩ : ∃ r, numsR s.data.toList kn.1 kn.2 = r := ⟨_, rfl⟩
  obtain ⟨cn, hcn⟩ : ∃ r, upR s.data.toList 1000 kr.2 = r := ⟨_, rfl⟩
  obtain ⟨cr, hcr⟩ : ∃ r, qsR s.data.toList cn.1 cn.2 = r := ⟨_, rfl⟩
  obtain ⟨an, han⟩ : ∃ r, upR s.data.toList 160 cr.2 = r := ⟨_, rfl⟩
  obtain ⟨ar, har⟩ : ∃ r, qsR s.data.toList an.1 an.2 = r := ⟨_, rfl⟩
  have HCR : Hid (codeR s.data.toList st = (⟨lr.1, hr.1.getD 0 0, hr.1.getD 1 0, hr.1.getD 2 0, hr.1.getD 3 0, hr.1.getD 4 0, tr.1, kr.1, cr.1, ar.1⟩, ar.2)) := by
    show _ = _
    simp only [codeR]
    rw [hlr, hhr, htr, hkn, hkr, hcn, hcr, han, har]
  have hL : lr.1 ≤ 20 := by rw [← hlr]; exact upR_le (m := 20)
  have hK : kn.1 ≤ 100 := by rw [← hkn]; exact upR_le (m := 100)
  have hCn : cn.1 ≤ 1000 := by rw [← hcn]; exact upR_le (m := 1000)
  have hAn : an.1 ≤ 160 := by rw [← han]; exact upR_le (m := 160)
  have Llr : Hid (upR s.data.toList 20 st = lr) := hlr
  have Lhr : Hid (numsR s.data.toList 5 lr.2 = hr) := hhr
  have Ltr : Hid (numsR s.data.toList (lr.1 * lr.1) hr.2 = tr) := htr
  have Lkn : Hid (upR s.data.toList 100 tr.2 = kn) := hkn
  have Lkr : Hid (numsR s.data.toList kn.1 kn.2 = kr) := hkr
  have Lcn : Hid (upR s.data.toList 1000 kr.2 = cn) := hcn
  have Lcr : Hid (qsR s.data.toList cn.1 cn.2 = cr) := hcr
  have Lan : Hid (upR s.data.toList 160 cr.2 = an) := han
  have Lar : Hid (qsR s.data.toList an.1 an.2 = ar) := har
  have HLen : Hid (hr.1.length = 5 ∧ tr.1.length = lr.1 * lr.1 ∧ kr.1.length = kn.1 ∧ cr.1.length = cn.1 ∧ ar.1.length = an.1) := ⟨by rw [← hhr]; exact numsR_len _ _ _, by rw [← htr]; exact numsR_len _ _ _, by rw [← hkr]; exact numsR_len _ _ _, by rw [← hcr]; exact qsR_len _ _ _, by rw [← har]; exact qsR_len _ _ _⟩
  clear hlr hhr htr hkn hkr hcn hcr han har
  obtain ⟨L, s1⟩ := lr
  obtain ⟨N1, hN1⟩ : ∃ N1, L * L = N1 := ⟨_, rfl⟩
  simp only at Lhr Ltr hL HLen HCR
  rw [hN1] at Ltr HLen
  have hN : N1 ≤ 400 := by rw [← hN1]; exact Nat.mul_le_mul hL hL
  have HMul : Hid ((L : Int) * (L : Int) = (N1 : Int)) := by show _ = _; rw [← hN1]; simp
  have hsq : 0 ≤ (L : Int) * (L : Int) ∧ (L : Int) * (L : Int) ≤ 400 := by rw [HMul.out]; omega
  clear hN1
  go_enter Tryd.func44, Tryd.ntmps44
  go_wp2_with fail
  refine (upTo_calls b s st 20 _ (HR.out.other (grown_below (r := none) (below_new _)) (by simp))).mono ?_
  rintro e w1 ⟨rfl, hr1, hg1⟩
  rw [Llr.out] at hr1 ⊢
  simp only at hr1
  have H0 : Hid (w1.heap[w.heap.size]? = some (.cells (zC (.slice none 0 0) (.slice none 0 0) (.slice none 0 0) (.slice none 0 0)) 26 (0, 0)) ∧ w.grownBy w1 (some b) ∧ Rd w1 b s s1 ∧ w.heap.size < w1.heap.size) := by
    refine ⟨?_, grown_trans (grown_below (below_new _)) hg1, hr1, Nat.lt_of_lt_of_le (by simp) hg1.size⟩
    rw [hg1.block _ (by simp) (fun e => by cases e; omega), heap_alloc_new]; rfl
  clear hr1 hg1 HR
  obtain ⟨g0, hg0⟩ : ∃ g0, w.heap.size = g0 := ⟨_, rfl⟩
  have HG0 : Hid (w.heap.size = g0) := hg0
  rw [hg0] at H0 hbl
  clear hg0
  rw [HG0.out]
  go_wp2
  have HCB : Hid (CB w b s s1 g0 w1.heap.size (w1.heap.size + 1) (hC L ([] ++ List.replicate 5 0) (.slice none 0 0) (.slice none 0 0) (.slice none 0 0) (.slice none 0 0)) ((w1.alloc (.cells #[.int .i64 (L : Int), .int .i64 0, .int .i64 0, .int .i64 0, .int .i64 0, .int .i64 0, .slice none 0 0, .slice none 0 0, .slice none 0 0, .slice none 0 0] 26)).alloc (.cells #[.pointer (some ⟨w1.heap.size, 1, none⟩), .pointer (some ⟨w1.heap.size, 2, none⟩), .pointer (some ⟨w1.heap.size, 3, none⟩), .pointer (some ⟨w1.heap.size, 4, none⟩), .pointer (some ⟨w1.heap.size, 5, none⟩)] 85))) := by
    obtain ⟨k0, k1, k2, k3⟩ := H0.out
    have hb2 : Below w1.heap.size w1 ((w1.alloc (.cells #[.int .i64 (L : Int), .int .i64 0, .int .i64 0, .int .i64 0, .int .i64 0, .int .i64 0, .slice none 0 0, .slice none 0 0, .slice none 0 0, .slice none 0 0] 26)).alloc (.cells #[.pointer (some ⟨w1.heap.size, 1, none⟩), .pointer (some ⟨w1.heap.size, 2, none⟩), .pointer (some ⟨w1.heap.size, 3, none⟩), .pointer (some ⟨w1.heap.size, 4, none⟩), .pointer (some ⟨w1.heap.size, 5, none⟩)] 85)) := below_al2 (Nat.le_refl _) _ _
    refine ⟨k2.other (grown_below (r := none) hb2) (by simp), grown_trans k1 (grown_below hb2), by rw [hb2.block _ (lt_block k0)]; exact k0, ?_, ?_, by rw [HG0.out]; exact Nat.le_refl _, by rw [HG0.out]; omega, by omega⟩
    · rw [(below_new _).block _ (by simp), heap_alloc_new]; rfl
    · rw [show w1.heap.size + 1 = (w1.alloc (.cells #[.int .i64 (L : Int), .int .i64 0, .int .i64 0, .int .i64 0, .int .i64 0, .int .i64 0, .slice none 0 0, .slice none 0 0, .slice none 0 0, .slice none 0 0] 26)).heap.size by simp, heap_alloc_new]
  clear H0
  obtain ⟨g, hg⟩ : ∃ g, w1.heap.size = g := ⟨_, rfl⟩
  have HG : Hid (w1.heap.size = g) := hg
  rw [hg] at HCB
  clear hg
  rw [HG.out]
  go_loopw [5, 16] (fun _ i wq => ∃ k : Nat, k ≤ 5 ∧ i = .int .i64 k ∧ CB w b s (numsR s.data.toList k s1).2 g0 g (g + 1) (hC L ((numsR s.data.toList k s1).1 ++ List.replicate (5 - k) 0) (.slice none 0 0) (.slice none 0 0) (.slice none 0 0) (.slice none 0 0)) wq) (fun _ i _ => 5 - (intOf i).toNat)
  case atStart => exact ⟨0, by omega, rfl, HCB.out⟩
  case round =>
    obtain ⟨k, hk, rfl, hcb⟩ := hrel
    clear HCB
    by_cases hlt : k < 5
    · obtain ⟨m, hm⟩ : ∃ m, 5 - k = m + 1 := ⟨4 - k, by omega⟩
      rw [hm] at hcb
      have HM : Hid (5 - (k + 1) = m) := by show _ = _; omega
      have HNN : Hid (numsR s.data.toList (k + 1) s1 = ((numsR s.data.toList k s1).1 ++ [(numR s.data.toList (numsR s.data.toList k s1).2).1], (numR s.data.toList (numsR s.data.toList k s1).2).2)) := numsR_succ _ _ _
      have hlen := numsR_len s.data.toList k s1
      obtain ⟨l, hl⟩ : ∃ l, (numsR s.data.toList k s1).1 = l := ⟨_, rfl⟩
      obtain ⟨sk, hsk⟩ : ∃ sk, (numsR s.data.toList k s1).2 = sk := ⟨_, rfl⟩
      obtain ⟨r, hrr⟩ : ∃ r, numR s.data.toList sk = r := ⟨_, rfl⟩
      rw [hl, hsk] at hcb
      rw [hl, hsk, hrr] at HNN
      rw [hl] at hlen
      have HRr : Hid (numR s.data.toList sk = r) := hrr
      have HC : Hid (CB w b s sk g0 g (g + 1) (hC L (l ++ List.replicate (m + 1) 0) (.slice none 0 0) (.slice none 0 0) (.slice none 0 0) (.slice none 0 0)) wr) := hcb
      have hp := hcb.ptr hlt
      have hdk : decide ((k : Int) < 5) = true := by simp; omega
      clear hcb hm hl hsk hrr
      go_wp2_with fail
      refine (number_calls b s sk wr HC.out.rd).mono ?_
      rintro e w2 ⟨rfl, hr2, hg2⟩
      rw [HRr.out] at hr2 ⊢
      obtain ⟨z, sn⟩ := r
      simp only at hr2 HNN
      have HC2 : Hid (CB w b s sn g0 g (g + 1) (hC L (l ++ List.replicate (m + 1) 0) (.slice none 0 0) (.slice none 0 0) (.slice none 0 0) (.slice none 0 0)) w2) := HC.out.next hr2 hg2
      have cn' : w2.cell? ⟨g, k + 1, none⟩ = some (.int .i64 0) := cell_block HC2.out.r1 _ _ (hC_get hlen)
      have fz := HC2.out.fz (k + 1)
      have HC3 : Hid (CB w b s sn g0 g (g + 1) (hC L (l ++ [z] ++ List.replicate m 0) (.slice none 0 0) (.slice none 0 0) (.slice none 0 0) (.slice none 0 0)) (w2.setCell ⟨g, k + 1, none⟩ (.int .i64 z))) := HC2.out.set _ _ (hC_set hlen)
      clear hr2 hg2 HC HC2
      go_wp2
      go_roundw
      case rel => exact ⟨k + 1, by omega, by go_num, by rw [HNN.out, HM.out]; exact HC3.out⟩
      case measure => simp [intOf]; omega
    · have hk5 : k = 5 := by omega
      subst hk5
      rw [Lhr.out, Nat.sub_self, List.replicate_zero, List.append_nil] at hcb
      obtain ⟨h0, h1, h2, h3, h4, hfive⟩ := five HLen.out.1
      rw [hfive] at hcb
      have HFive : Hid (hr.1 = [h0, h1, h2, h3, h4]) := hfive
      have HC2 : Hid (CB w b s hr.2 g0 g (g + 1) #[.int .i64 (L : Int), .int .i64 h0, .int .i64 h1, .int .i64 h2, .int .i64 h3, .int .i64 h4, .slice none 0 0, .slice none 0 0, .slice none 0 0, .slice none 0 0] wr) := hcb
      clear hcb hfive
      have c0 : wr.cell? ⟨g, 0, none⟩ = some (.int .i64 (L : Int)) := cell_block HC2.out.r1 0 _ rfl
      go_wp2_with fail
      rw [HMul.out]
      refine (numbers_calls b s hr.2 N1 wr HC2.out.rd hN).mono ?_
      rintro e w3 ⟨g1, rfl, ho, hr3, hg3⟩
      rw [Ltr.out] at ho hr3
      have O1 : Hid (w3.ownsRow w.heap.size 3 1 (.slice (some ⟨g1, 0, none⟩) N1 N1) N1 (intVals tr.1)) := owned_mono ho HC2.out.gr.size
      have HC3 : Hid (CB w b s tr.2 g0 g (g + 1) #[.int .i64 (L : Int), .int .i64 h0, .int .i64 h1, .int .i64 h2, .int .i64 h3, .int .i64 h4, .slice none 0 0, .slice none 0 0, .slice none 0 0, .slice none 0 0] w3) := HC2.out.next hr3 hg3
      clear ho hr3 hg3 HC2 c0
      obtain ⟨w4, hw⟩ : ∃ wzz, w3.setCell ⟨g, 6, none⟩ (.slice (some ⟨g1, 0, none⟩) N1 N1) = wzz := ⟨_, rfl⟩
      have HW4 : Hid (w3.setCell ⟨g, 6, none⟩ (.slice (some ⟨g1, 0, none⟩) N1 N1) = w4) := hw
      have HC4 : Hid (CB w b s tr.2 g0 g (g + 1) #[.int .i64 (L : Int), .int .i64 h0, .int .i64 h1, .int .i64 h2, .int .i64 h3, .int .i64 h4, .slice (some ⟨g1, 0, none⟩) N1 N1, .slice none 0 0, .slice none 0 0, .slice none 0 0] w4) := by rw [← hw]; exact HC3.out.set _ _ rfl
      have O1' : Hid (w4.ownsRow w.heap.size 3 1 (.slice (some ⟨g1, 0, none⟩) N1 N1) N1 (intVals tr.1)) := by rw [← hw]; exact own_kind O1.out HC3.out.r1 (by decide) (grown_set _ _ _ _)
      clear O1
      have O1 : Hid _ := O1'
      clear O1'
      have cs6 : w3.cell? ⟨g, 6, none⟩ = some (.slice none 0 0) := cell_block HC3.out.r1 6 _ rfl
      have fs6 := HC3.out.fz 6
      clear hw HC3
      go_wp2_with fail
      rw [HW4.out]
      refine (upTo_calls b s tr.2 100 _ HC4.out.rd).mono ?_
      rintro e w5 ⟨rfl, hr3, hg3⟩
      rw [Lkn.out] at hr3 ⊢
      have HC5 : Hid (CB w b s kn.2 g0 g (g + 1) #[.int .i64 (L : Int), .int .i64 h0, .int .i64 h1, .int .i64 h2, .int .i64 h3, .int .i64 h4, .slice (some ⟨g1, 0, none⟩) N1 N1, .slice none 0 0, .slice none 0 0, .slice none 0 0] w5) := HC4.out.next hr3 hg3
      have O1' : Hid (w5.ownsRow w.heap.size 3 1 (.slice (some ⟨g1, 0, none⟩) N1 N1) N1 (intVals tr.1)) := own_rd O1.out (by decide) HC4.out.rd hg3
      clear O1
      have O1 : Hid _ := O1'
      clear O1'
      clear hr3 hg3 HC4
      go_wp2_with fail
      refine (numbers_calls b s kn.2 kn.1 _ HC5.out.rd (by omega)).mono ?_
      rintro e w6 ⟨g2, rfl, ho, hr3, hg3⟩
      rw [Lkr.out] at ho hr3
      have HNe : Hid (g1 ≠ g2) := fun e => by
        have h1 := (O1.out.lt g1 rfl).2
        have h2 := (ho.lt g2 rfl).1
        omega
      have O2 : Hid (w6.ownsRow w.heap.size 3 1 (.slice (some ⟨g2, 0, none⟩) kn.1 kn.1) kn.1 (intVals kr.1)) := owned_mono ho HC5.out.gr.size
      have HC6 : Hid (CB w b s kr.2 g0 g (g + 1) #[.int .i64 (L : Int), .int .i64 h0, .int .i64 h1, .int .i64 h2, .int .i64 h3, .int .i64 h4, .slice (some ⟨g1, 0, none⟩) N1 N1, .slice none 0 0, .slice none 0 0, .slice none 0 0] w6) := HC5.out.next hr3 hg3
      have O1' : Hid (w6.ownsRow w.heap.size 3 1 (.slice (some ⟨g1, 0, none⟩) N1 N1) N1 (intVals tr.1)) := own_rd O1.out (by decide) HC5.out.rd hg3
      clear O1
      have O1 : Hid _ := O1'
      clear O1'
      clear ho hr3 hg3 HC5
      obtain ⟨w7, hw⟩ : ∃ wzz, w6.setCell ⟨g, 7, none⟩ (.slice (some ⟨g2, 0, none⟩) kn.1 kn.1) = wzz := ⟨_, rfl⟩
      have HW7 : Hid (w6.setCell ⟨g, 7, none⟩ (.slice (some ⟨g2, 0, none⟩) kn.1 kn.1) = w7) := hw
      have HC7 : Hid (CB w b s kr.2 g0 g (g + 1) #[.int .i64 (L : Int), .int .i64 h0, .int .i64 h1, .int .i64 h2, .int .i64 h3, .int .i64 h4, .slice (some ⟨g1, 0, none⟩) N1 N1, .slice (some ⟨g2, 0, none⟩) kn.1 kn.1, .slice none 0 0, .slice none 0 0] w7) := by rw [← hw]; exact HC6.out.set _ _ rfl
      have O1' : Hid (w7.ownsRow w.heap.size 3 1 (.slice (some ⟨g1, 0, none⟩) N1 N1) N1 (intVals tr.1)) := by rw [← hw]; exact own_kind O1.out HC6.out.r1 (by decide) (grown_set _ _ _ _)
      clear O1
      have O1 : Hid _ := O1'
      clear O1'
      have O2' : Hid (w7.ownsRow w.heap.size 3 1 (.slice (some ⟨g2, 0, none⟩) kn.1 kn.1) kn.1 (intVals kr.1)) := by rw [← hw]; exact own_kind O2.out HC6.out.r1 (by decide) (grown_set _ _ _ _)
      clear O2
      have O2 : Hid _ := O2'
      clear O2'
      have cs7 : w6.cell? ⟨g, 7, none⟩ = some (.slice none 0 0) := cell_block HC6.out.r1 7 _ rfl
      have fs7 := HC6.out.fz 7
      clear hw HC6
      go_wp2_with fail
      rw [HW7.out]
      refine (upTo_calls b s kr.2 1000 _ HC7.out.rd).mono ?_
      rintro e w8 ⟨rfl, hr3, hg3⟩
      rw [Lcn.out] at hr3 ⊢
      have HC8 : Hid (CB w b s cn.2 g0 g (g + 1) #[.int .i64 (L : Int), .int .i64 h0, .int .i64 h1, .int .i64 h2, .int .i64 h3, .int .i64 h4, .slice (some ⟨g1, 0, none⟩) N1 N1, .slice (some ⟨g2, 0, none⟩) kn.1 kn.1, .slice none 0 0, .slice none 0 0] w8) := HC7.out.next hr3 hg3
      have O1' : Hid (w8.ownsRow w.heap.size 3 1 (.slice (some ⟨g1, 0, none⟩) N1 N1) N1 (intVals tr.1)) := own_rd O1.out (by decide) HC7.out.rd hg3
      clear O1
      have O1 : Hid _ := O1'
      clear O1'
      have O2' : Hid (w8.ownsRow w.heap.size 3 1 (.slice (some ⟨g2, 0, none⟩) kn.1 kn.1) kn.1 (intVals kr.1)) := own_rd O2.out (by decide) HC7.out.rd hg3
      clear O2
      have O2 : Hid _ := O2'
      clear O2'
      clear hr3 hg3 HC7
      go_wp2_with fail
      refine (show QdsC 57 38 w8 b s cn.2 cn.1 from cell_calls b s _ _ _ HC8.out.rd (by omega)).mono ?_
      rintro e w9 ⟨g3, rfl, ho, hr3, hg3⟩
      rw [Lcr.out] at ho hr3
      have O3 : Hid (w9.ownsRow w.heap.size 38 4 (.slice (some ⟨g3, 0, none⟩) cn.1 cn.1) cn.1 (qdVals cr.1)) := owned_mono ho HC8.out.gr.size
      have HC9 : Hid (CB w b s cr.2 g0 g (g + 1) #[.int .i64 (L : Int), .int .i64 h0, .int .i64 h1, .int .i64 h2, .int .i64 h3, .int .i64 h4, .slice (some ⟨g1, 0, none⟩) N1 N1, .slice (some ⟨g2, 0, none⟩) kn.1 kn.1, .slice none 0 0, .slice none 0 0] w9) := HC8.out.next hr3 hg3
      have O1' : Hid (w9.ownsRow w.heap.size 3 1 (.slice (some ⟨g1, 0, none⟩) N1 N1) N1 (intVals tr.1)) := own_rd O1.out (by decide) HC8.out.rd hg3
      clear O1
      have O1 : Hid _ := O1'
      clear O1'
      have O2' : Hid (w9.ownsRow w.heap.size 3 1 (.slice (some ⟨g2, 0, none⟩) kn.1 kn.1) kn.1 (intVals kr.1)) := own_rd O2.out (by decide) HC8.out.rd hg3
      clear O2
      have O2 : Hid _ := O2'
      clear O2'
      clear ho hr3 hg3 HC8
      obtain ⟨w10, hw⟩ : ∃ wzz, w9.setCell ⟨g, 8, none⟩ (.slice (some ⟨g3, 0, none⟩) cn.1 cn.1) = wzz := ⟨_, rfl⟩
      have HW10 : Hid (w9.setCell ⟨g, 8, none⟩ (.slice (some ⟨g3, 0, none⟩) cn.1 cn.1) = w10) := hw
      have HC10 : Hid (CB w b s cr.2 g0 g (g + 1) #[.int .i64 (L : Int), .int .i64 h0, .int .i64 h1, .int .i64 h2, .int .i64 h3, .int .i64 h4, .slice (some ⟨g1, 0, none⟩) N1 N1, .slice (some ⟨g2, 0, none⟩) kn.1 kn.1, .slice (some ⟨g3, 0, none⟩) cn.1 cn.1, .slice none 0 0] w10) := by rw [← hw]; exact HC9.out.set _ _ rfl
      have O1' : Hid (w10.ownsRow w.heap.size 3 1 (.slice (some ⟨g1, 0, none⟩) N1 N1) N1 (intVals tr.1)) := by rw [← hw]; exact own_kind O1.out HC9.out.r1 (by decide) (grown_set _ _ _ _)
      clear O1
      have O1 : Hid _ := O1'
      clear O1'
      have O2' : Hid (w10.ownsRow w.heap.size 3 1 (.slice (some ⟨g2, 0, none⟩) kn.1 kn.1) kn.1 (intVals kr.1)) := by rw [← hw]; exact own_kind O2.out HC9.out.r1 (by decide) (grown_set _ _ _ _)
      clear O2
      have O2 : Hid _ := O2'
      clear O2'
      have O3' : Hid (w10.ownsRow w.heap.size 38 4 (.slice (some ⟨g3, 0, none⟩) cn.1 cn.1) cn.1 (qdVals cr.1)) := by rw [← hw]; exact own_kind O3.out HC9.out.r1 (by decide) (grown_set _ _ _ _)
      clear O3
      have O3 : Hid _ := O3'
      clear O3'
      have cs8 : w9.cell? ⟨g, 8, none⟩ = some (.slice none 0 0) := cell_block HC9.out.r1 8 _ rfl
      have fs8 := HC9.out.fz 8
      clear hw HC9
      go_wp2_with fail
      rw [HW10.out]
      refine (upTo_calls b s cr.2 160 _ HC10.out.rd).mono ?_
      rintro e w11 ⟨rfl, hr3, hg3⟩
      rw [Lan.out] at hr3 ⊢
      have HC11 : Hid (CB w b s an.2 g0 g (g + 1) #[.int .i64 (L : Int), .int .i64 h0, .int .i64 h1, .int .i64 h2, .int .i64 h3, .int .i64 h4, .slice (some ⟨g1, 0, none⟩) N1 N1, .slice (some ⟨g2, 0, none⟩) kn.1 kn.1, .slice (some ⟨g3, 0, none⟩) cn.1 cn.1, .slice none 0 0] w11) := HC10.out.next hr3 hg3
      have O1' : Hid (w11.ownsRow w.heap.size 3 1 (.slice (some ⟨g1, 0, none⟩) N1 N1) N1 (intVals tr.1)) := own_rd O1.out (by decide) HC10.out.rd hg3
      clear O1
      have O1 : Hid _ := O1'
      clear O1'
      have O2' : Hid (w11.ownsRow w.heap.size 3 1 (.slice (some ⟨g2, 0, none⟩) kn.1 kn.1) kn.1 (intVals kr.1)) := own_rd O2.out (by decide) HC10.out.rd hg3
      clear O2
      have O2 : Hid _ := O2'
      clear O2'
      have O3' : Hid (w11.ownsRow w.heap.size 38 4 (.slice (some ⟨g3, 0, none⟩) cn.1 cn.1) cn.1 (qdVals cr.1)) := own_rd O3.out (by decide) HC10.out.rd hg3
      clear O3
      have O3 : Hid _ := O3'
      clear O3'
      clear hr3 hg3 HC10
      go_wp2_with fail
      refine (show QdsC 58 40 w11 b s an.2 an.1 from arrows_calls b s _ _ _ HC11.out.rd (by omega)).mono ?_
      rintro e w12 ⟨g4, rfl, ho, hr3, hg3⟩
      rw [Lar.out] at ho hr3
      have O4 : Hid (w12.ownsRow w.heap.size 40 4 (.slice (some ⟨g4, 0, none⟩) an.1 an.1) an.1 (qdVals ar.1)) := owned_mono ho HC11.out.gr.size
      have HC12 : Hid (CB w b s ar.2 g0 g (g + 1) #[.int .i64 (L : Int), .int .i64 h0, .int .i64 h1, .int .i64 h2, .int .i64 h3, .int .i64 h4, .slice (some ⟨g1, 0, none⟩) N1 N1, .slice (some ⟨g2, 0, none⟩) kn.1 kn.1, .slice (some ⟨g3, 0, none⟩) cn.1 cn.1, .slice none 0 0] w12) := HC11.out.next hr3 hg3
      have O1' : Hid (w12.ownsRow w.heap.size 3 1 (.slice (some ⟨g1, 0, none⟩) N1 N1) N1 (intVals tr.1)) := own_rd O1.out (by decide) HC11.out.rd hg3
      clear O1
      have O1 : Hid _ := O1'
      clear O1'
      have O2' : Hid (w12.ownsRow w.heap.size 3 1 (.slice (some ⟨g2, 0, none⟩) kn.1 kn.1) kn.1 (intVals kr.1)) := own_rd O2.out (by decide) HC11.out.rd hg3
      clear O2
      have O2 : Hid _ := O2'
      clear O2'
      have O3' : Hid (w12.ownsRow w.heap.size 38 4 (.slice (some ⟨g3, 0, none⟩) cn.1 cn.1) cn.1 (qdVals cr.1)) := own_rd O3.out (by decide) HC11.out.rd hg3
      clear O3
      have O3 : Hid _ := O3'
      clear O3'
      clear ho hr3 hg3 HC11
      obtain ⟨w13, hw⟩ : ∃ wzz, w12.setCell ⟨g, 9, none⟩ (.slice (some ⟨g4, 0, none⟩) an.1 an.1) = wzz := ⟨_, rfl⟩
      have HW13 : Hid (w12.setCell ⟨g, 9, none⟩ (.slice (some ⟨g4, 0, none⟩) an.1 an.1) = w13) := hw
      have HC13 : Hid (CB w b s ar.2 g0 g (g + 1) #[.int .i64 (L : Int), .int .i64 h0, .int .i64 h1, .int .i64 h2, .int .i64 h3, .int .i64 h4, .slice (some ⟨g1, 0, none⟩) N1 N1, .slice (some ⟨g2, 0, none⟩) kn.1 kn.1, .slice (some ⟨g3, 0, none⟩) cn.1 cn.1, .slice (some ⟨g4, 0, none⟩) an.1 an.1] w13) := by rw [← hw]; exact HC12.out.set _ _ rfl
      have O1' : Hid (w13.ownsRow w.heap.size 3 1 (.slice (some ⟨g1, 0, none⟩) N1 N1) N1 (intVals tr.1)) := by rw [← hw]; exact own_kind O1.out HC12.out.r1 (by decide) (grown_set _ _ _ _)
      clear O1
      have O1 : Hid _ := O1'
      clear O1'
      have O2' : Hid (w13.ownsRow w.heap.size 3 1 (.slice (some ⟨g2, 0, none⟩) kn.1 kn.1) kn.1 (intVals kr.1)) := by rw [← hw]; exact own_kind O2.out HC12.out.r1 (by decide) (grown_set _ _ _ _)
      clear O2
      have O2 : Hid _ := O2'
      clear O2'
      have O3' : Hid (w13.ownsRow w.heap.size 38 4 (.slice (some ⟨g3, 0, none⟩) cn.1 cn.1) cn.1 (qdVals cr.1)) := by rw [← hw]; exact own_kind O3.out HC12.out.r1 (by decide) (grown_set _ _ _ _)
      clear O3
      have O3 : Hid _ := O3'
      clear O3'
      have O4' : Hid (w13.ownsRow w.heap.size 40 4 (.slice (some ⟨g4, 0, none⟩) an.1 an.1) an.1 (qdVals ar.1)) := by rw [← hw]; exact own_kind O4.out HC12.out.r1 (by decide) (grown_set _ _ _ _)
      clear O4
      have O4 : Hid _ := O4'
      clear O4'
      have cs9 : w12.cell? ⟨g, 9, none⟩ = some (.slice none 0 0) := cell_block HC12.out.r1 9 _ rfl
      have fs9 := HC12.out.fz 9
      clear hw HC12
      have d0 : w13.cell? ⟨g, 0, none⟩ = some (.int .i64 (L : Int)) := cell_block HC13.out.r1 0 _ rfl
      have d1 : w13.cell? ⟨g, 1, none⟩ = some (.int .i64 h0) := cell_block HC13.out.r1 1 _ rfl
      have d2 : w13.cell? ⟨g, 2, none⟩ = some (.int .i64 h1) := cell_block HC13.out.r1 2 _ rfl
      have d3 : w13.cell? ⟨g, 3, none⟩ = some (.int .i64 h2) := cell_block HC13.out.r1 3 _ rfl
      have d4 : w13.cell? ⟨g, 4, none⟩ = some (.int .i64 h3) := cell_block HC13.out.r1 4 _ rfl
      have d5 : w13.cell? ⟨g, 5, none⟩ = some (.int .i64 h4) := cell_block HC13.out.r1 5 _ rfl
      have d6 : w13.cell? ⟨g, 6, none⟩ = some (.slice (some ⟨g1, 0, none⟩) N1 N1) := cell_block HC13.out.r1 6 _ rfl
      have d7 : w13.cell? ⟨g, 7, none⟩ = some (.slice (some ⟨g2, 0, none⟩) kn.1 kn.1) := cell_block HC13.out.r1 7 _ rfl
      have d8 : w13.cell? ⟨g, 8, none⟩ = some (.slice (some ⟨g3, 0, none⟩) cn.1 cn.1) := cell_block HC13.out.r1 8 _ rfl
      have d9 : w13.cell? ⟨g, 9, none⟩ = some (.slice (some ⟨g4, 0, none⟩) an.1 an.1) := cell_block HC13.out.r1 9 _ rfl
      have e0 : w13.cell? ⟨g0, 0, none⟩ = some (.int .i64 0) := cell_block HC13.out.r0 0 _ rfl
      have e1 : w13.cell? ⟨g0, 1, none⟩ = some (.int .i64 0) := cell_block HC13.out.r0 1 _ rfl
      have e2 : w13.cell? ⟨g0, 2, none⟩ = some (.int .i64 0) := cell_block HC13.out.r0 2 _ rfl
      have e3 : w13.cell? ⟨g0, 3, none⟩ = some (.int .i64 0) := cell_block HC13.out.r0 3 _ rfl
      have e4 : w13.cell? ⟨g0, 4, none⟩ = some (.int .i64 0) := cell_block HC13.out.r0 4 _ rfl
      have e5 : w13.cell? ⟨g0, 5, none⟩ = some (.int .i64 0) := cell_block HC13.out.r0 5 _ rfl
      have e6 : w13.cell? ⟨g0, 6, none⟩ = some (.slice none 0 0) := cell_block HC13.out.r0 6 _ rfl
      have e7 : w13.cell? ⟨g0, 7, none⟩ = some (.slice none 0 0) := cell_block HC13.out.r0 7 _ rfl
      have e8 : w13.cell? ⟨g0, 8, none⟩ = some (.slice none 0 0) := cell_block HC13.out.r0 8 _ rfl
      have e9 : w13.cell? ⟨g0, 9, none⟩ = some (.slice none 0 0) := cell_block HC13.out.r0 9 _ rfl
      have ef : ∀ i, w13.frozen? ⟨g0, i, none⟩ = false := fun i => frozen_of_row w13 _ i _ _ HC13.out.r0
      have hres : Tryd.f44.results = #[.cell 2 26] := by kernel_rfl
      go_upto_region 11 with (fail)
      rw [HW13.out]
      go_wp2
      refine bodyPost_ret (v := .agg #[.int .i64 (L : Int), .int .i64 h0, .int .i64 h1, .int .i64 h2, .int .i64 h3, .int .i64 h4, .slice (some ⟨g1, 0, none⟩) N1 N1, .slice (some ⟨g2, 0, none⟩) kn.1 kn.1, .slice (some ⟨g3, 0, none⟩) cn.1 cn.1, .slice (some ⟨g4, 0, none⟩) an.1 an.1]) ?_ rfl ⟨g1, g2, g3, g4, ?_, ?_⟩
      · simp only [results, hres]
        go_simp
      · rw [HCR.out]
        obtain ⟨l1, l2, l3, l4, l5⟩ := HLen.out
        simp only [cdCells, ownS, HFive.out, l2, l3, l4, l5]
        rfl
      · rw [HCR.out]
        obtain ⟨l1, l2, l3, l4, l5⟩ := HLen.out
        have hown : CdOwn w.heap.size w13 ⟨L, hr.1.getD 0 0, hr.1.getD 1 0, hr.1.getD 2 0, hr.1.getD 3 0, hr.1.getD 4 0, tr.1, kr.1, cr.1, ar.1⟩ g1 g2 g3 g4 := ⟨by simp only [l2]; exact O1.out, by simp only [l3]; exact O2.out, by simp only [l4]; exact O3.out, by simp only [l5]; exact O4.out, HNe.out⟩
        refine ⟨hown.box HC13.out.r0 (grown_ten _ _ _ _ _ _ _ _ _ _ _ _), ?_⟩
        exact ten_keep HC13.out _ _ _ _ _ _ _ _ _ _

end Go.Proofs.YtignpgoicoojiaaDoor
