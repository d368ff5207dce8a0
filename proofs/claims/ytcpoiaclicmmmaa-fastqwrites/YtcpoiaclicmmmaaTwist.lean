/-
  The walk of the statements' own twisted: reads as a file in another form.
-/
import Derived.Test.YtcpoiaclicmmmaaRefPrint2
import Derived.Test.YtcpoiaclicmmmaaBackPlain
import Derived.Deep.CutRange
import Derived.Deep.DeepCutAuto
namespace Go.Proofs.Ytcpoiaclicmmmaa
open Go.RowKit

def m1P (pat : Int) : Bool := bits BinOp.and IntKind.i64 pat 1 == 1
def m2P (pat : Int) : Bool := bits BinOp.and IntKind.i64 pat 2 == 2
def m4P (pat : Int) : Bool := bits BinOp.and IntKind.i64 pat 4 == 4
def endP (pat : Int) : List UInt8 := if m1P pat then [13, 10] else [10]
theorem endP_is (pat : Int) : endP pat = [10] ∨ endP pat = [13, 10] := by
  unfold endP; split
  · exact .inr rfl
  · exact .inl rfl
theorem allTw_at (e : List UInt8) (m2 m4 : Bool) (qs : List Rd) (k : Nat) (q : Rd) (hq : qs[k]? = some q) : allTw e m2 m4 ((qs.take (k + 1)).map Rd.P) = allTw e m2 m4 ((qs.take k).map Rd.P) ++ twB e m2 m4 q.P := by
  obtain ⟨hlt, he⟩ := List.getElem?_eq_some_iff.1 hq
  rw [List.take_succ_eq_append_getElem hlt, he]
  simp [allTw]
def TwistPost (pat : Int) (qs : List Rd) (w : World) (e : Ending) (w' : World) : Prop :=
  ∃ t, e = .returned (.string t) ∧ t.data.toList = allTw (endP pat) (m2P pat) (m4P pat) (qs.map Rd.P) ∧ Below w.heap.size w w'

set_option maxRecDepth 100000 in
set_option maxHeartbeats 8000000 in
theorem twisted_calls (ao : Option Addr) (len cap : Nat) (pat : Int) (qs : List Rd) (w : World) (hz : RdsAt w ao len qs) (hlen : len ≤ 256) (hok : ∀ q ∈ qs, okQ q.P = true) :
    Calls Try.prog 14 #[.slice ao len cap, .int .i64 pat] w fun e w' => TwistPost pat qs w e w' := by
  have HZL : Hid (qs.length = len) := hz.length
  have HZ : Hid (RdsAt w ao len qs) := hz
  have HOk : Hid (∀ q ∈ qs, okQ q.P = true) := hok
  obtain ⟨en, hen⟩ : ∃ en : ByteArray, en.data.toList = endP pat := ⟨⟨(endP pat).toArray⟩, mk_list _⟩
  have hens : en.size ≤ 2 := by
    rw [← size_toList, hen]; rcases endP_is pat with h | h <;> rw [h] <;> simp
  have HEn : Hid (en.data.toList = endP pat) := hen
  clear hz hok hen
  go_enter Try.func14, Try.ntmps14
  go_upto_if 12 with (fail)
  go_cut [6] (fun v wc => v = .string en ∧ wc = w)
  case first =>
    cases h1 : m1P pat with
    | true =>
      have hd : (bits BinOp.and IntKind.i64 pat 1 == 1) = true := h1
      have he : en = ⟨#[13, 10]⟩ := byte_ext (by rw [HEn.out]; unfold endP; rw [h1]; rfl)
      go_wp2
      go_meet
      exact ⟨by rw [he], rfl⟩
    | false =>
      have hd : (bits BinOp.and IntKind.i64 pat 1 == 1) = false := h1
      have he : en = ⟨#[10]⟩ := byte_ext (by rw [HEn.out]; unfold endP; rw [h1]; rfl)
      go_wp2
      go_meet
      exact ⟨by rw [he], rfl⟩
  case rest =>
    obtain ⟨rfl, hwc⟩ := hcut
    have hwc2 := hwc.symm
    subst hwc2
    clear hwc
    go_wp2_with fail
    go_loopw [5, 7] (fun v i wq => ∃ j : Nat, j ≤ len ∧ i = .int .i64 j ∧ wq.ownsRow w.heap.size 5 1 v (allTw (endP pat) (m2P pat) (m4P pat) ((qs.take j).map Rd.P)).length (byteVals (allTw (endP pat) (m2P pat) (m4P pat) ((qs.take j).map Rd.P))) ∧ Below w.heap.size w wq ∧ (allTw (endP pat) (m2P pat) (m4P pat) ((qs.take j).map Rd.P)).length ≤ j * 131500) (fun _ i _ => len - (intOf i).toNat)
    case atStart => exact ⟨0, Nat.zero_le _, rfl, World.ownsRow_nil _ _ _ _, Below.refl _ _, by simp [allTw]⟩
    case round =>
      obtain ⟨j, hj, rfl, hown, hbel, hal⟩ := hrel
      have HNx0 : Hid (∀ q, qs[j]? = some q → allTw (endP pat) (m2P pat) (m4P pat) ((qs.take (j + 1)).map Rd.P) = allTw (endP pat) (m2P pat) (m4P pat) ((qs.take j).map Rd.P) ++ twB (endP pat) (m2P pat) (m4P pat) q.P) := fun q hq => allTw_at _ _ _ qs j q hq
      have HAll : Hid (qs.take j = qs → allTw (endP pat) (m2P pat) (m4P pat) (qs.map Rd.P) = allTw (endP pat) (m2P pat) (m4P pat) ((qs.take j).map Rd.P)) := fun h => by rw [h]
      generalize hac : allTw (endP pat) (m2P pat) (m4P pat) ((qs.take j).map Rd.P) = acc at *
      obtain ⟨ao0, cap0, rfl⟩ := owned_shape hown
      have HO : Hid (wr.ownsRow w.heap.size 5 1 (.slice ao0 acc.length cap0) acc.length (byteVals acc)) := hown
      have HBe : Hid (Below w.heap.size w wr) := hbel
      have hsw : w.heap.size ≤ wr.heap.size := hbel.size
      clear hown hbel hac
      by_cases hlt2 : j < len
      · have hdj : decide ((j : Int) < (len : Int)) = true := by simp; omega
        obtain ⟨b, off, rfl, hcs⟩ := HZ.out.cells (by omega)
        obtain ⟨q, hq⟩ : ∃ q, qs[j]? = some q := ⟨_, List.getElem?_eq_getElem (by rw [HZL.out]; exact hlt2)⟩
        obtain ⟨hw1, hw2, hw3, hw4⟩ := hcs j q hq
        have HCell : Hid (∀ W, Below w.heap.size w W → W.cell? ⟨b, off + j * 4, none⟩ = some (.string q.1) ∧ W.cell? ⟨b, off + j * 4 + 1, none⟩ = some (.string q.2.1) ∧ W.cell? ⟨b, off + j * 4 + 2, none⟩ = some (.string q.2.2.1) ∧ W.cell? ⟨b, off + j * 4 + 3, none⟩ = some (.string q.2.2.2)) := by
          intro W hb
          exact ⟨by rw [hb.cell (World.block_lt_of_cell? w _ hw1)]; exact hw1, by rw [hb.cell (World.block_lt_of_cell? w _ hw2)]; exact hw2, by rw [hb.cell (World.block_lt_of_cell? w _ hw3)]; exact hw3, by rw [hb.cell (World.block_lt_of_cell? w _ hw4)]; exact hw4⟩
        obtain ⟨hc1, hc2, hc3, hc4⟩ := HCell.out wr HBe.out
        have hokq := HOk.out q (List.mem_of_getElem? hq)
        have HTL : Hid ((twB (endP pat) (m2P pat) (m4P pat) q.P).length ≤ 131500) := tw_length (endP_is pat) _ _ q.P hokq
        simp only [okQ, nameB, noteB, basesB, lastB, Bool.and_eq_true, decide_eq_true_eq, Rd.P, size_toList] at hokq
        have hq1 : q.1.size ≤ 64 := hokq.1.2.1
        have hq2 : q.2.1.size ≤ 64 := hokq.2.1.1
        have hq3 : q.2.2.1.size ≤ 65536 := hokq.2.2.1.2.1
        have hq4 : q.2.2.2.size = q.2.2.1.size := hokq.2.2.2.1
        have HNx : Hid (allTw (endP pat) (m2P pat) (m4P pat) ((qs.take (j + 1)).map Rd.P) = acc ++ twB (endP pat) (m2P pat) (m4P pat) q.P) := HNx0.out q hq
        obtain ⟨tt, htt, hts, htc⟩ := titled_var q.1 q.2.1 hq1 hq2
        have HTi : Hid (∀ w, Calls Try.prog 28 #[.string q.1, .string q.2.1] w fun e w' => e = .returned (.string tt) ∧ w' = w) := htc
        obtain ⟨mk, hmk⟩ : ∃ mk : ByteArray, mk.data.toList = if m2P pat then 43 :: joinB q.1.data.toList q.2.1.data.toList else [43] := ⟨⟨(if m2P pat then 43 :: joinB q.1.data.toList q.2.1.data.toList else [43]).toArray⟩, mk_list _⟩
        have hmks : mk.size ≤ 130 := by
          rw [← size_toList, hmk]
          split
          · rw [List.length_cons, ← htt, size_toList]; omega
          · simp
        have z1 : (⟨#[64]⟩ : ByteArray).size = 1 := rfl
        have z2 : (⟨#[43]⟩ : ByteArray).size = 1 := rfl
        obtain ⟨s0, l0, n0, e0⟩ := cat_var ⟨#[43]⟩ tt (by omega)
        have HMk : Hid ((m2P pat = true → mk = s0) ∧ (m2P pat = false → mk = ⟨#[43]⟩)) := by
          refine ⟨fun h => byte_ext ?_, fun h => byte_ext ?_⟩
          · rw [hmk, h, l0, htt]; rfl
          · rw [hmk, h]; rfl
        obtain ⟨s1, l1, n1, e1⟩ := cat_var ⟨#[64]⟩ tt (by omega)
        obtain ⟨s2, l2, n2, e2⟩ := cat_var s1 en (by omega)
        obtain ⟨s3, l3, n3, e3⟩ := cat_var s2 q.2.2.1 (by omega)
        obtain ⟨s4, l4, n4, e4⟩ := cat_var s3 en (by omega)
        obtain ⟨s5, l5, n5, e5⟩ := cat_var s4 mk (by omega)
        obtain ⟨s6, l6, n6, e6⟩ := cat_var s5 en (by omega)
        obtain ⟨s7, l7, n7, e7⟩ := cat_var s6 q.2.2.2 (by omega)
        obtain ⟨s8, l8, n8, e8⟩ := cat_var s7 en (by omega)
        have hs8 : s8.size ≤ 140000 := by omega
        have HS8 : Hid (twB (endP pat) (m2P pat) (m4P pat) q.P = (if m4P pat then endP pat else []) ++ s8.data.toList) := by
          show _ = _
          rw [l8, l7, l6, l5, l4, l3, l2, l1, htt, hmk, HEn.out]; simp [twB, Rd.P]
        clear hcs hq hokq htt hts htc hmk z1 z2 l0 n0 l1 l2 l3 l4 l5 l6 l7 l8 n1 n2 n3 n4 n5 n6 n7 n8 HNx0 HAll hq1 hq2 hq3 hq4 hw1 hw2 hw3 hw4
        obtain ⟨i0, hi, hz0, hz1, hz2⟩ := info_parts info5
        have HOD : Hid (∀ k, (wr.drewN k).ownsRow w.heap.size 5 1 (.slice ao0 acc.length cap0) acc.length (byteVals acc) ∧ Below w.heap.size w (wr.drewN k)) := by
          intro k
          have hb := below_drewN (Below.refl wr.heap.size wr) k
          exact ⟨owned_below HO.out hb, HBe.out.trans (hb.mono hsw)⟩
        go_wp2_with fail
        go_quiet (first | (go_at_call 28; exact Calls.quiet_of_same (HTi.out _)))
        have HO2 : Hid ((wr.drewN nq).ownsRow w.heap.size 5 1 (.slice ao0 acc.length cap0) acc.length (byteVals acc) ∧ Below w.heap.size w (wr.drewN nq)) := HOD.out nq
        have hs2 : w.heap.size ≤ (wr.drewN nq).heap.size := HO2.out.2.size
        generalize wr.drewN nq = W2 at *
        clear HOD HO HBe hc1 hc2 hc3 hc4 HTi
        go_upto_if 32 with (fail)
        go_cut [9] from 13 to 66 (fun v wc => v = .string mk ∧ wc = W2)
        case first =>
          clear e1 e2 e3 e4 e5 e6 e7 e8
          cases h2 : m2P pat with
          | true =>
            have hd : (bits BinOp.and IntKind.i64 pat 2 == 2) = true := h2
            have hm := HMk.out.1 h2
            go_wp2
            go_meet
            exact ⟨by rw [hm], rfl⟩
          | false =>
            have hd : (bits BinOp.and IntKind.i64 pat 2 == 2) = false := h2
            have hm := HMk.out.2 h2
            go_wp2
            go_meet
            exact ⟨by rw [hm], rfl⟩
        case rest =>
          obtain ⟨rfl, hwc⟩ := hcut
          have hwc2 := hwc.symm
          subst hwc2
          clear hwc
          clear e0 HMk
          obtain ⟨acc2, hacc2⟩ : ∃ acc2, acc2 = acc ++ (if m4P pat then endP pat else []) := ⟨_, rfl⟩
          have HAcc2 : Hid (acc2 = acc ++ (if m4P pat then endP pat else [])) := hacc2
          have hacl : acc2.length ≤ acc.length + 2 := by
            rw [hacc2, List.length_append]
            have : (if m4P pat then endP pat else []).length ≤ 2 := by
              split
              · rcases endP_is pat with h | h <;> rw [h] <;> simp
              · simp
            omega
          clear hacc2
          go_upto_if 37 with (fail)
          go_cut [5] from 13 to 66 (fun v wx => wx.ownsRow w.heap.size 5 1 v acc2.length (byteVals acc2) ∧ Below w.heap.size w wx)
          case first =>
            clear e1 e2 e3 e4 e5 e6 e7 e8
            cases h4 : m4P pat with
            | true =>
              have hd : (bits BinOp.and IntKind.i64 pat 4 == 4) = true := h4
              have HA2 : Hid (acc2 = acc ++ en.data.toList) := by
                show acc2 = _
                rw [HAcc2.out, h4, HEn.out]; rfl
              clear h4 HAcc2 HTL HS8 HNx
              go_wp2_with (at_builtin; go_loud (refine Lib.wpList_append_own_string _ rfl _ _ 52 9 rfl w.heap.size 5 i0 Try.underlying52 Try.underlying9 hi hz0 hz1 hz2 _ _ _ rfl HO2.out.1 en rfl ?c1 ?c2 ?c3 ?_))
              case c1 => unfold maxLen; omega
              case c2 => omega
              case c3 => exact hs2
              intro v' w3 ho hg _
              have HZ3 : Hid (w3.ownsRow w.heap.size 5 1 v' acc2.length (byteVals acc2) ∧ Below w.heap.size w w3) := by
                refine ⟨?_, HO2.out.2.grown hg hs2 (fun k hk => (HO2.out.1.lt k hk).1)⟩
                rw [HA2.out, byteVals_append, List.length_append, size_toList, ← strCells_eq]; exact ho
              clear ho hg HO2 HA2
              go_wp2
              go_meet
              exact HZ3.out
            | false =>
              have hd : (bits BinOp.and IntKind.i64 pat 4 == 4) = false := h4
              have HA2 : Hid (acc2 = acc) := by
                show acc2 = _
                rw [HAcc2.out, h4]; simp
              have HZ3 : Hid (W2.ownsRow w.heap.size 5 1 (.slice ao0 acc.length cap0) acc2.length (byteVals acc2) ∧ Below w.heap.size w W2) := by
                show _ ∧ _
                rw [HA2.out]; exact HO2.out
              clear h4 HAcc2 HTL HS8 HNx HO2 HA2
              go_wp2
              go_meet
              exact HZ3.out
          case rest =>
            obtain ⟨hown3, hb3⟩ := hcut
            obtain ⟨ao3, cap3, rfl⟩ := owned_shape hown3
            obtain ⟨_, _, hc3, hc4⟩ := HCell.out _ hb3
            have HO3 : Hid (wc.drew.ownsRow w.heap.size 5 1 (.slice ao3 acc2.length cap3) acc2.length (byteVals acc2)) := hown3.drew
            have HB3 : Hid (Below w.heap.size w wc.drew) := hb3.drew
            have hs3 : w.heap.size ≤ wc.drew.heap.size := HB3.out.size
            have HEnd : Hid (∀ v4 w4, w4.ownsRow w.heap.size 5 1 v4 (acc2.length + s8.size) (byteVals acc2 ++ Lib.strCells s8) → wc.drew.grownBy w4 (Value.slice ao3 acc2.length cap3).ownBlock → Hid (w4.ownsRow w.heap.size 5 1 v4 (allTw (endP pat) (m2P pat) (m4P pat) ((qs.take (j + 1)).map Rd.P)).length (byteVals (allTw (endP pat) (m2P pat) (m4P pat) ((qs.take (j + 1)).map Rd.P))) ∧ Below w.heap.size w w4 ∧ (allTw (endP pat) (m2P pat) (m4P pat) ((qs.take (j + 1)).map Rd.P)).length ≤ (j + 1) * 131500)) := by
              intro v4 w4 ho hg
              have e9 : acc ++ twB (endP pat) (m2P pat) (m4P pat) q.P = acc2 ++ s8.data.toList := by rw [HS8.out, HAcc2.out, List.append_assoc]
              have h9 := congrArg List.length e9
              have h10 := HTL.out
              refine ⟨?_, HB3.out.grown hg hs3 (fun k hk => (HO3.out.lt k hk).1), ?_⟩
              · rw [HNx.out, e9, byteVals_append, List.length_append, size_toList, ← strCells_eq]; exact ho
              · rw [HNx.out, List.length_append]; omega
            clear hown3 hb3 HCell HO2 HAcc2 HTL HS8 HNx
            go_wp2_with fail
            go_region_law (first
              | (refine step_append_text rfl (.tmp 41) (.tmp 65) 52 9 rfl w.heap.size 5 i0 Try.underlying52 Try.underlying9 hi hz0 hz1 hz2 _ acc2.length _ (by simp [Act.eval, Act.put]) HO3.out s8 (by simp [Act.eval, Act.put]) (by unfold maxLen; omega) (by omega) hs3 ?_
                 intro v4 w4 ho hg
                 obtain ⟨ao4, cap4, rfl⟩ := owned_shape ho
                 have HZ4 := HEnd.out _ _ ho hg
                 clear ho hg))
            all_goals (
              clear HEnd HO3 HB3 e1 e2 e3 e4 e5 e6 e7 e8 hc3 hc4 hi hz0 hz1 hz2
              go_wp2
              go_roundw
              case rel => exact ⟨j + 1, by omega, by go_num, HZ4.out.1, HZ4.out.2.1, HZ4.out.2.2⟩
              case measure => simp [intOf]; omega)
      · have hdj : decide ((j : Int) < (len : Int)) = false := by simp; omega
        have htk : qs.take j = qs := List.take_of_length_le (by rw [HZL.out]; omega)
        have hconv := owned_text HO.out
        have HE : Hid (TwistPost pat qs w (.returned (.string ⟨acc.toArray⟩)) wr) := ⟨_, rfl, by rw [mk_list, HAll.out htk], HBe.out⟩
        have hal2 : acc.length ≤ 33664000 := by omega
        clear htk HAll hal
        generalize acc.length = al at *
        go_wp2
        go_ret
        exact HE.out
end Go.Proofs.Ytcpoiaclicmmmaa
