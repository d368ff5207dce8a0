/-
  CigarReads is proved for every text of at most 1048575 bytes: cigar.Parse answers as the document says, and again after its first answer was written over. The condition: the bulk of what comes in is at most 1048576; the tables that the standard library reads are tied to the program's text.
-/
import Derived.Test.YtkecpjgpgnfhmaaDoorRows
import Derived.Test.YtkecpjgpgnfhmaaDoorAwake
import Derived.Test.YtkecpjgpgnfhmaaDoorRefParse
import Derived.Test.YtkecpjgpgnfhmaaDoorSame
import Derived.Test.YtkecpjgpgnfhmaaDoorOver
import Derived.Test.YtkecpjgpgnfhmaaDoorCards
import Derived.Test.YtkecpjgpgnfhmaaDoorTie
import Derived.Deep.DeepHandedRow
import Derived.WalkKit
namespace Go.Proofs.YtkecpjgpgnfhmaaDoor
open Go.RowKit

theorem parseA_fits (s : List UInt8) : ((parseA s).1.length ≤ 131074) ∧ ∀ r ∈ (parseA s).1, 1 ≤ r.2 ∧ r.2 ≤ 131072 := by
  have h0 : (([], 40) : List Rn × Int).1.length ≤ 131074 ∧ ∀ r ∈ (([], 40) : List Rn × Int).1, 1 ≤ r.2 ∧ r.2 ≤ 131072 := ⟨by simp, fun _ h => by cases h⟩
  unfold parseA
  split
  · exact ⟨by simp, fun _ h => by cases h⟩
  · cases tokGo [] 0 s with
    | none => exact h0
    | some l =>
      rw [finA]
      split
      · rename_i h
        exact ⟨right_few h.2, fun r hr => (right_each h.2 r hr).2⟩
      · exact h0

set_option maxRecDepth 100000 in
set_option maxHeartbeats 4000000 in
theorem reads_walk (s : ByteArray) (w : World) (htab : TabOk w) (hs : s.size ≤ 1048576) : Calls Tryd.prog 5 #[.string s] w fun e w' => e = .returned (.bool true) ∧ Below w.heap.size w w' := by
  have HAw : Hid (Calls Tryd.prog 8 #[] w fun e w' => e = .returned (.bool true) ∧ Below w.heap.size w w') := awake_calls w htab
  have HOf : Hid (∀ w, Calls Tryd.prog 20 #[.string s] w fun e w' => RunsPost (parseA s.data.toList) w e w') := fun w => parse_calls s w
  have HRf : Hid (∀ w, Calls Tryd.prog 21 #[.string s] w fun e w' => RunsPost (parseA s.data.toList) w e w') := fun w => refParse_calls s w hs
  have hfa := parseA_fits s.data.toList
  generalize hA : parseA s.data.toList = A at *
  obtain ⟨L, z⟩ := A
  simp only at hfa
  clear hA htab hs
  have HFit : Hid (∀ r ∈ L, fitI r.2) := fun r hr => by have := hfa.2 r hr; unfold fitI; omega
  have hL := hfa.1
  clear hfa
  go_enter Tryd.func5, Tryd.ntmps5
  go_wp2_with fail
  refine HAw.out.mono ?_
  rintro e w1 ⟨rfl, hb1⟩
  have HB1 : Hid (Below w.heap.size w w1) := hb1
  clear hb1 HAw
  go_wp2_with fail
  refine (HOf.out _).mono ?_
  rintro e w2 ⟨lv, rfl, hlo, hb2⟩
  simp only at hlo
  have HB2 : Hid (Below w.heap.size w w2) := HB1.out.trans (hb2.mono HB1.out.size)
  have HS12 : Hid (w1.heap.size ≤ w2.heap.size) := hb2.size
  have HLO2 : Hid (w2.ownsRow w1.heap.size 29 2 lv L.length (rowCells L)) := hlo
  clear hlo hb2
  go_wp2_with fail
  refine (HRf.out _).mono ?_
  rintro e w3 ⟨rv, rfl, hro, hb3⟩
  simp only at hro
  obtain ⟨lao, lcap, rfl⟩ := owned_shape HLO2.out
  obtain ⟨rao, rcap, rfl⟩ := owned_shape hro
  have HLO3 : Hid (w3.ownsRow w1.heap.size 29 2 (.slice lao L.length lcap) L.length (rowCells L)) := owned_below HLO2.out hb3
  have HRO3 : Hid (w3.ownsRow w2.heap.size 29 2 (.slice rao L.length rcap) L.length (rowCells L)) := hro
  have HB3 : Hid (Below w.heap.size w w3) := HB2.out.trans (hb3.mono HB2.out.size)
  have HS23 : Hid (w2.heap.size ≤ w3.heap.size) := hb3.size
  have HSame : Hid (Calls Tryd.prog 11 #[.slice lao L.length lcap, .slice rao L.length rcap] w3 fun e w' => e = .returned (.bool true) ∧ ∃ k, w' = w3.drewN k) := by
    have h1 := same_calls lao rao _ _ lcap rcap L L w3 (owned_rns HLO3.out HFit.out) (owned_rns HRO3.out HFit.out)
    rw [decide_eq_true rfl] at h1
    exact h1
  have HLB : Hid (∀ k, (Value.slice lao L.length lcap).ownBlock = some k → w1.heap.size ≤ k ∧ k < w2.heap.size) := fun k hk => HLO2.out.lt k hk
  clear hro hb3 HLO2
  generalize hln : L.length = n at *
  have HLN : Hid (L.length = n) := hln
  clear hln
  go_wp2_with fail
  refine HSame.out.mono ?_
  rintro e w4 ⟨rfl, kd, hw4⟩
  have hb4 : Below w3.heap.size w3 w4 := by rw [hw4]; exact below_drewN (Below.refl _ _) kd
  have HLO4 : Hid (w4.ownsRow w1.heap.size 29 2 (.slice lao n lcap) n (rowCells L)) := owned_below HLO3.out hb4
  have HRO4 : Hid (w4.ownsRow w2.heap.size 29 2 (.slice rao n rcap) n (rowCells L)) := owned_below HRO3.out hb4
  have HB4 : Hid (Below w.heap.size w w4) := HB3.out.trans (hb4.mono HB3.out.size)
  have HS24 : Hid (w2.heap.size ≤ w4.heap.size) := Nat.le_trans HS23.out hb4.size
  clear hw4 hb4 HLO3 HRO3 HB3 HSame
  go_wp2_with fail
  go_loopw [9] (fun i wr => ∃ (k : Nat) (ps : List Rn), k ≤ n ∧ i = .int .i64 k ∧ ps.length = n ∧ wr.ownsRow w1.heap.size 29 2 (.slice lao n lcap) n (rowCells ps) ∧ wr.ownsRow w2.heap.size 29 2 (.slice rao n rcap) n (rowCells L) ∧ Below w.heap.size w wr ∧ w2.heap.size ≤ wr.heap.size) (fun i _ => n - (intOf i).toNat)
  case atStart => exact ⟨0, L, Nat.zero_le _, rfl, HLN.out, HLO4.out, HRO4.out, HB4.out, HS24.out⟩
  case round =>
    obtain ⟨k, ps, hk, rfl, hpl, hlo, hro, hbel, hs2⟩ := hrel
    have HLO : Hid (wr.ownsRow w1.heap.size 29 2 (.slice lao n lcap) n (rowCells ps)) := hlo
    have HRO : Hid (wr.ownsRow w2.heap.size 29 2 (.slice rao n rcap) n (rowCells L)) := hro
    have HBe : Hid (Below w.heap.size w wr) := hbel
    have HPL : Hid (ps.length = n) := hpl
    clear hlo hro hbel hpl HLO4 HRO4 HB4 HS24
    by_cases hlt : k < n
    · have hd : decide ((k : Int) < (n : Int)) = true := by simp; omega
      obtain ⟨g, rfl⟩ : ∃ g, lao = some ⟨g, 0, none⟩ := by
        rcases HLO.out.2 with ⟨hv, hz⟩ | ⟨g, cap', cur, hv, _⟩
        · omega
        · cases hv; exact ⟨g, rfl⟩
      obtain ⟨q, hq⟩ : ∃ q, ps[k]? = some q := ⟨_, List.getElem?_eq_getElem (by rw [HPL.out]; exact hlt)⟩
      obtain ⟨r1, r2⟩ := rowCells_get ps k q hq
      obtain ⟨c2, f2⟩ := owned_cells HLO.out _ _ r2
      obtain ⟨hg1, hg2⟩ := HLB.out g rfl
      have HQ : Hid (ps[k]? = some q) := hq
      clear hq r1 r2
      go_wp2
      go_roundw
      case rel =>
        have h1 := owned_set HLO.out (k * 2 + 1) (.int .i64 (-1))
        rw [rowCells_set _ _ _ _ HQ.out] at h1
        have hgw : w.heap.size ≤ g := Nat.le_trans HB1.out.size hg1
        refine ⟨k + 1, ps.set k (q.1, -1), by omega, by go_num, by rw [List.length_set]; exact HPL.out, h1, owned_setBelow HRO.out hg2 _, HBe.out.setCell (p := (⟨g, k * 2 + 1, none⟩ : Addr)) hgw _, ?_⟩
        simpa using hs2
      case measure => simp [intOf]; omega
    · have hd : decide ((k : Int) < (n : Int)) = false := by simp; omega
      obtain ⟨i0, hi, hz0, hz1, hz2⟩ := info_parts info29
      have hs1 : w1.heap.size ≤ wr.heap.size := Nat.le_trans HS12.out hs2
      go_wp2_with (at_builtin; go_loud (refine wpList_append_own _ rfl _ _ 23 rfl w1.heap.size 29 i0 (.agg #[.int .u8 0, .int .i64 0]) 2 16 Tryd.underlying23 hi hz0 hz1 hz2 rfl (by decide) _ _ _ rfl (HLO.out.alloc _) ⟨_, 0, none⟩ 1 1 (rnCells (88, 0)) rfl rfl (cell_two_new _ _ _ _) (rn_oneCell _) ?c3 ?c4 ?c5 ?_))
      case c3 => unfold maxLen; omega
      case c4 => omega
      case c5 => simp; omega
      intro v' w5 ho5 hg5 _
      have HRO5 : Hid (w5.ownsRow w2.heap.size 29 2 (.slice rao n rcap) n (rowCells L)) := owned_grownBelow (HRO.out.alloc _) (fun k hk => (HLB.out k hk).2) hg5
      have HB5 : Hid (Below w.heap.size w w5) := (HBe.out.alloc HBe.out.size _).grown hg5 (by have := HBe.out.size; simp; omega) (fun k hk => Nat.le_trans HB1.out.size (HLB.out k hk).1)
      clear ho5 hg5 HLO HRO HBe HLB
      go_wp2_with fail
      refine (HOf.out _).mono ?_
      rintro e w6 ⟨mv, rfl, hmo, hb6⟩
      simp only at hmo
      rw [HLN.out] at hmo
      obtain ⟨mao, mcap, rfl⟩ := owned_shape hmo
      have HRO6 := owned_below HRO5.out hb6
      have HB6 : Hid (Below w.heap.size w w6) := HB5.out.trans (hb6.mono HB5.out.size)
      have HSame : Hid (Calls Tryd.prog 11 #[.slice mao n mcap, .slice rao n rcap] w6 fun e w' => e = .returned (.bool true) ∧ ∃ k, w' = w6.drewN k) := by
        have h1 := same_calls mao rao n n mcap rcap L L w6 (owned_rns hmo HFit.out) (owned_rns HRO6 HFit.out)
        rw [decide_eq_true rfl] at h1
        exact h1
      clear hmo hb6 HRO6 HRO5 HB5
      go_wp2_with fail
      refine HSame.out.mono ?_
      rintro e w7 ⟨rfl, kd7, hw7⟩
      have HB7 : Hid (Below w.heap.size w w7) := by rw [hw7]; exact below_drewN HB6.out kd7
      clear hw7 HSame HB6
      go_wp2
      go_ret
      exact ⟨rfl, HB7.out⟩

namespace cigarReads
open Go.ChangeShapes Go.WideShapes Go.ChangeAt Go.RowKit
open Go.ChangeMaps (open_string shut_string)

theorem reads (os : Os) {H : Type} (enc : TypeId × Value → H) : ∃ places, DataW.whole enc Tryd.prog ((World.doorLaid Tryd.prog 400 os).forCall (fun _ _ => 0) ⟨#[], #[.string ByteArray.empty], []⟩).memory Tryd.f5.params.toList Rows.cigarReadsSpec.vars false #[Value.string ByteArray.empty].toList 8 = some ([.lit (.string [])], [], places) :=
  ⟨[], by kernel_rfl⟩

set_option maxRecDepth 100000 in
theorem liftedUpto (os : Os) (started : os.Started) (H : Type) (enc : TypeId × Value → H) (F : Stop.Interp) :
    ReturnsInHanded {} Tryd.checked os 5 .any ((Rows.OpenSpec.upto Rows.cigarReadsSpec).preRow enc Tryd.prog Tryd.f5 Rows.cigarReadsUptoRow.domain false Rows.cigarReadsUptoRow.laid) (((Rows.OpenSpec.upto Rows.cigarReadsSpec).at F).post enc Tryd.prog Tryd.f5 false true false false) := by
  obtain ⟨places, hx⟩ := reads os enc
  refine returnsInHanded_of_row (C := Tryd.checked) (s := Rows.OpenSpec.upto Rows.cigarReadsSpec) own started (by kernel_rfl) Tryd.func5
    (witness_row_at (enc := enc) (C := Tryd.checked) false (World.doorLaid Tryd.prog 400 os) #[.string ByteArray.empty] rfl (by kernel_rfl) (by kernel_rfl) (by kernel_rfl)
      (OpenSpec.preRow_of_cond 8 hx (by kernel_rfl) (fun k hk => by cases hk; kernel_rfl) (by kernel_rfl) (door_met os _))) ?_
  intro W base args ds gs before hval0 hW _ hcond _ hL _ _
  have hval : ∀ (j : Nat) t v, Tryd.f5.params[j]? = some t → args[j]? = some v → Value.okWide Tryd.prog W .any base t v := hval0
  have hW' := hW
  obtain ⟨p, q, hA0, hV, rfl, hfz, hnd⟩ := hW
  have hA : DataW.TrodAll enc Tryd.prog W 0 (fun _ => true) true Tryd.f5.params.toList args.toList ds p := hA0
  rw [Tryd.params5] at hA hval
  obtain ⟨v0, vs0, d0, ds0, p0, q0, hargs, rfl, rfl, h0, r0⟩ := trodAll_cons hA
  obtain ⟨rfl, rfl, rfl⟩ := trodAll_nil r0
  obtain rfl : args = #[v0] := by cases args; simp_all
  obtain ⟨rfl, rfl⟩ := trodVars_none hV
  obtain ⟨a0, rfl, rfl, rfl, w0⟩ := open_string Tryd.underlying9 (hval 0 9 v0 rfl rfl) h0
  have hk := of_decide_eq_true (hcond _ rfl)
  simp only [List.append_nil, Rows.uptoBulkAll, Rows.uptoBulk] at hk
  have hsz : a0.size ≤ 1048576 := by rw [← size_toList]; omega
  clear hA0 hval0
  refine (reads_walk a0 W (tab_of_laid hL) hsz).mono fun e W' ⟨he, bel⟩ => ?_
  subst he
  exact ⟨_, rfl, _, _, _, [], _, [], hW', trodAll_mk1 (shut_bool Tryd.underlying4 _), (trodAll_cons_mk (shut_string Tryd.underlying9 w0) trodAll_mk0), rfl, bel.frame _, fun h => by cases h⟩
end cigarReads

theorem cigarReadsUpto_holds : Rows.CigarReadsUptoSaid :=
  OpenClaim.holds_of_cond 5 Tryd.f5 rfl rfl rfl rfl rfl rfl rfl ⟨rfl, rfl, rfl, rfl, rfl⟩ rfl rfl rfl rfl rfl (by kernel_rfl) Tryd.func5 (by kernel_rfl)
    (of_decide_eq_true (by kernel_rfl)) (by unfold Func.isWrapper; first | (rw [if_pos (by decide +kernel)]; kernel_rfl) | (rw [if_neg (by decide +kernel)]; exact ⟨rfl, rfl⟩))
    (fun os started H enc _ F => by rw [OpenClaim.pre_eq_preRow]; exact cigarReads.liftedUpto os started H enc F)

theorem cigarReadsUptoCard_holds : Rows.CigarReadsUptoCardSaid :=
  Claim7.holds_tied_plain_at .later [] _ _ _ _
    cigarReadsUpto_holds (fun _ h => by cases h) (by kernel_rfl) (fun _ h => by cases h) cigarReadsUpto_row_tie rfl ⟨rfl, rfl⟩ (by kernel_rfl) rfl
    (fun f fn hf hfn => by
      obtain rfl : f = 5 := Option.some.inj ((show Tryd.prog.funcNamed Rows.cigarReadsUptoRow.func = some 5 by kernel_rfl).symm.trans hf) |>.symm
      obtain rfl : fn = Tryd.f5 := (Option.some.inj (Tryd.func5.symm.trans hfn)).symm
      exact ⟨by kernel_rfl, fun j t ht => by
        rw [Tryd.params5] at ht
        have hm : t ∈ [9] := by simpa using Array.mem_of_getElem? ht
        have hall : ([9].all fun u => !Tryd.prog.wantsStandIn u) = true := by kernel_rfl
        exact (show Tryd.prog.wantsStandIn t = false by simpa using List.all_eq_true.1 hall t hm)⟩)
    (by kernel_rfl)
end Go.Proofs.YtkecpjgpgnfhmaaDoor
