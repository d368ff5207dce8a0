/-
  The walk of the document's own Print.
-/
import Derived.Test.YtcpoiaclicmmmaaRefPrint
namespace Go.Proofs.Ytcpoiaclicmmmaa
open Go.RowKit

/-- append of a text onto a row of bytes of the call's own, as one step of a statement that leaves its order open. -/
theorem step_append_text {P : Program} {ops : Array Oper} {o : Oper} {a : Act} {w : World} {K : Act → World → Prop} {Q : Exit → Act → World → Prop} {E : Prop}
    (hg : o.guard = none) (s x : Operand) (t u : TypeId) (hop : o.op = Op.call { callee := Callee.builtin Builtin.append, args := #[s, x], argTypes := #[t, u] })
    (base : Nat) (e : TypeId) (i : TypeInfo) (ht : P.underlying t = some (.slice e)) (hu : P.underlying u = some .string) (hi : P.info? e = some i) (hz : i.zero = some (.int .u8 0)) (hsize : i.size = 1) (hby : i.bytes = 1)
    (v : Value) (n : Nat) (xs : List Value) (hs : a.eval s = v) (hown : w.ownsRow base e 1 v n xs) (y : ByteArray) (hx : a.eval x = .string y)
    (h63 : n + y.size ≤ maxLen) (hbytes : n + y.size ≤ 140737488355328) (hbase : base ≤ w.heap.size)
    (hK : ∀ v' w', w'.ownsRow base e 1 v' (n + y.size) (xs ++ Lib.strCells y) → w.grownBy w' v.ownBlock → K (a.put o.dst v') w') :
    if Region.wanted o (yielded ops a.tmps) = true then Oper.wp P o a w K Q else E := by
  have hw : Region.wanted o (yielded ops a.tmps) = true := by simp [Region.wanted, hg]
  rw [if_pos hw]
  obtain ⟨v', w', hrun, r1, r2, _⟩ := Lib.run_append_own_string (P := P) w base t u o.type e i ht hu hi hz hsize hby v n xs hown y h63 hbytes hbase
  unfold Oper.wp
  simp [execOp, hop, resolve, invoke, builtin, hs, hx, hrun, Result.andThen]
  exact hK v' w' r1 r2
/-- Two texts, one behind the other, under one name. -/
theorem cat_var (a b : ByteArray) (h : a.size + b.size ≤ 1000000000) : ∃ c : ByteArray, c.data.toList = a.data.toList ++ b.data.toList ∧ c.size = a.size + b.size ∧ ∀ W, (Op.stringOp .add a b).run Try.prog W = .ok (.string c) W :=
  ⟨a ++ b, ba_append a b, ByteArray.size_append, fun W => run_string_add_sum W _ _ (by omega)⟩

theorem titled_var (a c : ByteArray) (ha : a.size ≤ 64) (hc : c.size ≤ 64) : ∃ t : ByteArray, t.data.toList = joinB a.data.toList c.data.toList ∧ t.size ≤ 129 ∧ ∀ w, Calls Try.prog 28 #[.string a, .string c] w fun e w' => e = .returned (.string t) ∧ w' = w := by
  obtain ⟨t, ht⟩ : ∃ t : ByteArray, t.data.toList = joinB a.data.toList c.data.toList := ⟨⟨(joinB a.data.toList c.data.toList).toArray⟩, mk_list _⟩
  refine ⟨t, ht, ?_, fun w => ?_⟩
  · have := join_length a.data.toList c.data.toList
    rw [← ht, size_toList, size_toList, size_toList] at this; omega
  · refine (titled_calls a c w (by omega) (by omega)).mono ?_
    rintro e w' ⟨t', rfl, ht', rfl⟩
    exact ⟨by rw [byte_ext (ht'.trans ht.symm)], rfl⟩

set_option maxRecDepth 100000 in
set_option maxHeartbeats 4000000 in
theorem refPrint_calls (ao : Option Addr) (len cap : Nat) (qs : List Rd) (w : World) (hz : RdsAt w ao len qs) (hsh : ∀ q ∈ qs, q.short) :
    Calls Try.prog 13 #[.slice ao len cap] w fun e w' => PrintPost qs w e w' := by
  by_cases hlen : 256 < len
  · have HE : Hid (PrintPost qs w (.returned (.tuple #[.string ⟨#[]⟩, .int .i64 2])) w) := print_post (l := []) (n := 2) (by unfold printQ; rw [if_pos (by rw [List.length_map, hz.length]; exact hlen)]) rfl rfl (Below.refl _ _)
    have hd3 : decide ((256 : Int) < len) = true := by simp; omega
    go_enter Try.func13, Try.ntmps13
    go_wp2
    go_ret2
    exact HE.out
  have hd3 : decide ((256 : Int) < len) = false := by simp; omega
  have hl64 : len ≤ 256 := by omega
  have HP : Hid (printQ (qs.map Rd.P) = if (qs.map Rd.P).all okQ = false then ([], 30) else if 1048576 < (allQ (qs.map Rd.P)).length then ([], 2) else (allQ (qs.map Rd.P), 0)) := by
    show printQ _ = _
    unfold printQ; rw [if_neg (by rw [List.length_map, hz.length]; exact hlen)]
  have HZL : Hid (qs.length = len) := hz.length
  have HZ : Hid (RdsAt w ao len qs) := hz
  have HSh : Hid (∀ q ∈ qs, q.short) := hsh
  clear hz hsh hlen
  go_enter Try.func13, Try.ntmps13
  go_wp2
  go_loopw [4] (fun i wr => ∃ k : Nat, k ≤ len ∧ i = .int .i64 k ∧ (∀ p ∈ qs.take k, okQ p.P = true) ∧ Below w.heap.size w wr) (fun i _ => len - (intOf i).toNat)
  case atStart => exact ⟨0, Nat.zero_le _, rfl, by simp, Below.refl _ _⟩
  case round =>
    obtain ⟨k, hk, rfl, hok, hbel⟩ := hrel
    have HOk : Hid (∀ p ∈ qs.take k, okQ p.P = true) := hok
    have HB : Hid (Below w.heap.size w wr) := hbel
    clear hok hbel
    by_cases hlt : k < len
    · have hdk : decide ((k : Int) < (len : Int)) = true := by simp; omega
      obtain ⟨b, off, rfl, hcs⟩ := (HZ.out.below HB.out).cells (by omega)
      obtain ⟨q, hq⟩ : ∃ q, qs[k]? = some q := ⟨_, List.getElem?_eq_getElem (by rw [HZL.out]; exact hlt)⟩
      obtain ⟨hc1, hc2, hc3, hc4⟩ := hcs k q hq
      have HQ : Hid (qs[k]? = some q) := hq
      have hqs := HSh.out q (List.mem_of_getElem? hq)
      have HM : Hid (∀ w, Calls Try.prog 27 #[.agg #[.string q.1, .string q.2.1, .string q.2.2.1, .string q.2.2.2]] w fun e w' => e = .returned (.bool (okQ q.P)) ∧ Below w.heap.size w w') := fun w => refRight_calls q w hqs
      have HBe : Hid (∀ W, Below wr.heap.size wr W → Below w.heap.size w W) := fun W h => HB.out.trans (h.mono HB.out.size)
      clear hcs hq hqs
      cases hokq : okQ q.P with
      | false =>
        have HE : Hid (∀ w', Below w.heap.size w w' → PrintPost qs w (.returned (.tuple #[.string ⟨#[]⟩, .int .i64 30])) w') := by
          intro w' hb
          refine print_post (l := []) (n := 30) ?_ rfl rfl hb
          rw [HP.out, if_pos (ok_at HQ.out hokq)]
        rw [hokq] at HM
        clear hokq HP HOk HQ HSh
        go_wp2_with (go_at_call 27; refine (HM.out _).mono ?_; rintro e W1 ⟨rfl, hb⟩)
        go_ret2
        exact HE.out _ (HBe.out _ hb)
      | true =>
        have HNext : Hid (∀ p ∈ qs.take (k + 1), okQ p.P = true) := ok_next HQ.out hokq HOk.out
        rw [hokq] at HM
        clear hokq HOk HQ
        go_wp2_with (go_at_call 27; refine (HM.out _).mono ?_; rintro e W1 ⟨rfl, hb⟩)
        have HB4 : Hid (Below w.heap.size w W1) := HBe.out _ hb
        clear hb
        go_roundw
        case rel => exact ⟨k + 1, by omega, by go_num, HNext.out, HB4.out⟩
        case measure => simp [intOf]; omega
    · have hdk : decide ((k : Int) < (len : Int)) = false := by simp; omega
      have HEach : Hid (∀ (j : Nat) (q : Rd), qs[j]? = some q → okQ q.P = true) := fun j q hj => HOk.out q (by rw [List.take_of_length_le (by rw [HZL.out]; omega)]; exact List.mem_of_getElem? hj)
      have HP2 : Hid (printQ (qs.map Rd.P) = if 1048576 < (allQ (qs.map Rd.P)).length then ([], 2) else (allQ (qs.map Rd.P), 0)) := by
        show printQ _ = _
        rw [HP.out, if_neg]
        intro h
        rw [List.all_eq_false] at h
        obtain ⟨p, hp, hp2⟩ := h
        obtain ⟨q, hq, rfl⟩ := List.mem_map.1 hp
        obtain ⟨j, hj⟩ := List.getElem?_of_mem hq
        exact hp2 (HEach.out j q hj)
      clear HP HOk HSh
      go_wp2_with fail
      go_loopw [6, 7] (fun v i wq => ∃ j : Nat, j ≤ len ∧ i = .int .i64 j ∧ wq.ownsRow w.heap.size 5 1 v (allQ ((qs.take j).map Rd.P)).length (byteVals (allQ ((qs.take j).map Rd.P))) ∧ Below w.heap.size w wq ∧ (allQ ((qs.take j).map Rd.P)).length ≤ 1048576) (fun _ i _ => len - (intOf i).toNat)
      case atStart => exact ⟨0, Nat.zero_le _, rfl, World.ownsRow_nil _ _ _ _, HB.out, by simp [allQ]⟩
      case round =>
        obtain ⟨j, hj, rfl, hown, hbel, hal⟩ := hrel
        have HNx0 : Hid (∀ q, qs[j]? = some q → allQ ((qs.take (j + 1)).map Rd.P) = allQ ((qs.take j).map Rd.P) ++ recB q.P) := fun q hq => allQ_at qs j q hq
        have HAll : Hid (qs.take j = qs → allQ (qs.map Rd.P) = allQ ((qs.take j).map Rd.P)) := fun h => by rw [h]
        generalize hac : allQ ((qs.take j).map Rd.P) = acc at *
        obtain ⟨ao0, cap0, rfl⟩ := owned_shape hown
        have HO : Hid (wr.ownsRow w.heap.size 5 1 (.slice ao0 acc.length cap0) acc.length (byteVals acc)) := hown
        have HBe : Hid (Below w.heap.size w wr) := hbel
        have hsw : w.heap.size ≤ wr.heap.size := hbel.size
        clear hown hbel hac HB
        by_cases hlt2 : j < len
        · have hdj : decide ((j : Int) < (len : Int)) = true := by simp; omega
          obtain ⟨b, off, rfl, hcs⟩ := (HZ.out.below HBe.out).cells (by omega)
          obtain ⟨q, hq⟩ : ∃ q, qs[j]? = some q := ⟨_, List.getElem?_eq_getElem (by rw [HZL.out]; exact hlt2)⟩
          obtain ⟨hc1, hc2, hc3, hc4⟩ := hcs j q hq
          have hokq := HEach.out j q hq
          have hsl := recB_length q.P hokq
          simp only [okQ, nameB, noteB, basesB, lastB, Bool.and_eq_true, decide_eq_true_eq, Rd.P, size_toList] at hokq
          have hq1 : q.1.size ≤ 64 := hokq.1.2.1
          have hq2 : q.2.1.size ≤ 64 := hokq.2.1.1
          have hq3 : q.2.2.1.size ≤ 65536 := hokq.2.2.1.2.1
          have hq4 : q.2.2.2.size = q.2.2.1.size := hokq.2.2.2.1
          have HNx : Hid (allQ ((qs.take (j + 1)).map Rd.P) = acc ++ recB q.P) := HNx0.out q hq
          have HBig : Hid (1048576 < (acc ++ recB q.P).length → printQ (qs.map Rd.P) = ([], 2)) := by
            intro hb
            rw [HP2.out, if_pos]
            have := allQ_take_le (qs.map Rd.P) (j + 1)
            rw [← List.map_take, HNx.out] at this
            omega
          obtain ⟨tt, htt, hts, htc⟩ := titled_var q.1 q.2.1 hq1 hq2
          have HTi : Hid (∀ w, Calls Try.prog 28 #[.string q.1, .string q.2.1] w fun e w' => e = .returned (.string tt) ∧ w' = w) := htc
          have z1 : (⟨#[64]⟩ : ByteArray).size = 1 := rfl
          have z2 : (⟨#[10]⟩ : ByteArray).size = 1 := rfl
          have z3 : (⟨#[10, 43, 10]⟩ : ByteArray).size = 3 := rfl
          obtain ⟨s1, l1, n1, e1⟩ := cat_var ⟨#[64]⟩ tt (by omega)
          obtain ⟨s2, l2, n2, e2⟩ := cat_var s1 ⟨#[10]⟩ (by omega)
          obtain ⟨s3, l3, n3, e3⟩ := cat_var s2 q.2.2.1 (by omega)
          obtain ⟨s4, l4, n4, e4⟩ := cat_var s3 ⟨#[10, 43, 10]⟩ (by omega)
          obtain ⟨s5, l5, n5, e5⟩ := cat_var s4 q.2.2.2 (by omega)
          obtain ⟨s6, l6, n6, e6⟩ := cat_var s5 ⟨#[10]⟩ (by omega)
          have HS6 : Hid (s6.data.toList = recB q.P ∧ s6.size ≤ 131300) := by
            have h1 : s6.data.toList = recB q.P := by
              rw [l6, l5, l4, l3, l2, l1, htt]; simp [recB, Rd.P]
            exact ⟨h1, by rw [← size_toList, h1]; exact hsl⟩
          have hs6 : s6.size ≤ 131300 := HS6.out.2
          clear hcs hq hokq htt hts htc z1 z2 z3 l1 l2 l3 l4 l5 l6 n1 n2 n3 n4 n5 n6 HNx0 HAll HP2 HEach hq1 hq2 hq3 hq4 hsl
          obtain ⟨i0, hi, hz0, hz1, hz2⟩ := info_parts info5
          have HOD : Hid (∀ W, Hid (∃ k, W = wr.drewN k) → W.ownsRow w.heap.size 5 1 (.slice ao0 acc.length cap0) acc.length (byteVals acc) ∧ Below w.heap.size w W) := by
            rintro W hW
            obtain ⟨k, rfl⟩ := hW.out
            have hb := below_drewN (Below.refl wr.heap.size wr) k
            exact ⟨owned_below HO.out hb, HBe.out.trans (hb.mono hsw)⟩
          go_wp2_with fail
          go_quiet (first | (go_at_call 28; exact Calls.quiet_of_same (HTi.out _)))
          obtain ⟨hO2, hB2⟩ := HOD.out _ ⟨nq, rfl⟩
          have HO2 : Hid ((wr.drewN nq).drew.ownsRow w.heap.size 5 1 (.slice ao0 acc.length cap0) acc.length (byteVals acc)) := hO2.drew
          have HB2 : Hid (Below w.heap.size w (wr.drewN nq).drew) := hB2.drew
          have hs2 : w.heap.size ≤ (wr.drewN nq).drew.heap.size := HB2.out.size
          have hd3' : (wr.drewN nq).cell? ⟨b, off + j * 4 + 2, none⟩ = some (.string q.2.2.1) := by
            rw [(below_drewN (Below.refl wr.heap.size wr) nq).cell (World.block_lt_of_cell? wr _ hc3)]; exact hc3
          have hd4' : (wr.drewN nq).cell? ⟨b, off + j * 4 + 3, none⟩ = some (.string q.2.2.2) := by
            rw [(below_drewN (Below.refl wr.heap.size wr) nq).cell (World.block_lt_of_cell? wr _ hc4)]; exact hc4
          have HEnd : Hid (∀ v4 w4, w4.ownsRow w.heap.size 5 1 v4 (acc.length + s6.size) (byteVals acc ++ Lib.strCells s6) → (wr.drewN nq).drew.grownBy w4 (Value.slice ao0 acc.length cap0).ownBlock → Hid (w4.ownsRow w.heap.size 5 1 v4 (acc ++ recB q.P).length (byteVals (acc ++ recB q.P)) ∧ Below w.heap.size w w4)) := by
            intro v4 w4 ho hg
            refine ⟨?_, HB2.out.grown hg hs2 (fun k hk => (HO2.out.lt k hk).1)⟩
            rw [byteVals_append, List.length_append, ← HS6.out.1, size_toList, ← strCells_eq]; exact ho
          have HLn : Hid ((acc ++ recB q.P).length = acc.length + s6.size) := by
            show _ = _
            rw [List.length_append, ← HS6.out.1, size_toList]
          generalize wr.drewN nq = W2 at *
          clear hO2 hB2 HOD HO HBe hc1 hc2 hc3 hc4 HTi HS6
          go_wp2_with fail
          go_region_law (first
            | (refine step_append_text rfl (.tmp 42) (.tmp 59) 52 9 rfl w.heap.size 5 i0 Try.underlying52 Try.underlying9 hi hz0 hz1 hz2 _ acc.length _ (by simp [Act.eval, Act.put]) HO2.out s6 (by simp [Act.eval, Act.put]) (by unfold maxLen; omega) (by omega) hs2 ?_
               intro v4 w4 ho hg
               obtain ⟨ao4, cap4, rfl⟩ := owned_shape ho
               have HZ := HEnd.out _ _ ho hg
               clear ho hg))
          all_goals (
            clear HEnd HO2 HB2 e1 e2 e3 e4 e5 e6 hd3' hd4' hi hz0 hz1 hz2
            by_cases hbg : 1048576 < acc.length + s6.size
            · have hdg : decide ((1048576 : Int) < (acc.length : Int) + (s6.size : Int)) = true := by simp; omega
              have HE : Hid (PrintPost qs w (.returned (.tuple #[.string ⟨#[]⟩, .int .i64 2])) w4) := print_post (l := []) (n := 2) (HBig.out (by rw [HLn.out]; exact hbg)) rfl rfl HZ.out.2
              generalize acc.length = al at *
              generalize s6.size = sl at *
              clear HZ HBig HNx
              go_wp2
              go_ret2
              exact HE.out
            · have hdg : decide ((1048576 : Int) < (acc.length : Int) + (s6.size : Int)) = false := by simp; omega
              have HB3 : Hid (w4.ownsRow w.heap.size 5 1 (.slice ao4 (acc.length + s6.size) cap4) (allQ ((qs.take (j + 1)).map Rd.P)).length (byteVals (allQ ((qs.take (j + 1)).map Rd.P))) ∧ Below w.heap.size w w4 ∧ (allQ ((qs.take (j + 1)).map Rd.P)).length ≤ 1048576) := by
                show _ ∧ _
                rw [HNx.out]; exact ⟨HZ.out.1, HZ.out.2, by rw [HLn.out]; omega⟩
              generalize acc.length = al at *
              generalize s6.size = sl at *
              clear HZ HBig HNx HLn
              go_wp2
              go_roundw
              case rel => exact ⟨j + 1, by omega, by go_num, HB3.out.1, HB3.out.2.1, HB3.out.2.2⟩
              case measure => simp [intOf]; omega)
        · have hdj : decide ((j : Int) < (len : Int)) = false := by simp; omega
          have htk : qs.take j = qs := List.take_of_length_le (by rw [HZL.out]; omega)
          have hconv := owned_text HO.out
          have HE : Hid (PrintPost qs w (.returned (.tuple #[.string ⟨acc.toArray⟩, .int .i64 0])) wr) := print_post (l := acc) (n := 0) (by
            rw [HP2.out, HAll.out htk, if_neg (by omega)]) (mk_list _) rfl HBe.out
          clear htk HP2 HAll
          generalize acc.length = al at *
          go_wp2
          go_ret2
          exact HE.out
end Go.Proofs.Ytcpoiaclicmmmaa
