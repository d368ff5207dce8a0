/-
  The walk of the document's own Print.
-/
import Derived.Test.YtcleejdlmamdhaaWritten2
namespace Go.Proofs.Ytcleejdlmamdhaa
open Go.RowKit

theorem refNamed_same (ao : Option Addr) (len cap : Nat) (qs : List Sq) (s : ByteArray) (w : World) (hz : SqsAt w ao len qs) :
    Calls Try.prog 31 #[.slice ao len cap, .string s] w fun e w' => e = .returned (.bool (namedB (qs.map Sq.P) s.data.toList)) ∧ w' = w := by
  have hm := hz.short
  unfold maxLen at hm
  have HZL : Hid (qs.length = len) := hz.length
  have HZ : Hid (SqsAt w ao len qs) := hz
  clear hz
  go_enter Try.func31, Try.ntmps31
  go_wp2
  go_loop [5] (fun i => ∃ k : Nat, k ≤ len ∧ i = .int .i64 k ∧ (∀ q ∈ qs.take k, q.1 ≠ s)) (fun i => len - (intOf i).toNat)
  case atStart => exact ⟨0, Nat.zero_le _, rfl, by simp⟩
  case round =>
    obtain ⟨k, hk, rfl, hn⟩ := hrel
    have HN : Hid (∀ q ∈ qs.take k, q.1 ≠ s) := hn
    clear hn
    by_cases hlt : k < len
    · obtain ⟨b, off, rfl, hcs⟩ := HZ.out.cells (by omega)
      obtain ⟨q, hq⟩ : ∃ q, qs[k]? = some q := ⟨_, List.getElem?_eq_getElem (by rw [HZL.out]; exact hlt)⟩
      obtain ⟨hc1, hc2, hc3⟩ := hcs k q hq
      have HQ : Hid (qs[k]? = some q) := hq
      clear hcs hq
      cases hqe : (q.1.toList == s.toList) with
      | true =>
        have HE : Hid (namedB (qs.map Sq.P) s.data.toList = true) := namedB_hit HQ.out hqe
        go_wp2
        go_ret
        exact ⟨ret_bool HE.out.symm, rfl⟩
      | false =>
        have HE : Hid (q.1 ≠ s) := name_ne hqe
        go_wp2
        go_round
        case rel => exact ⟨k + 1, by omega, by go_num, take_next HN.out HQ.out HE.out⟩
        case measure => simp [intOf]; omega
    · have HE : Hid (namedB (qs.map Sq.P) s.data.toList = false) := namedB_none (fun q hq => HN.out q (by rwa [List.take_of_length_le (by rw [HZL.out]; omega)]))
      go_wp2
      go_ret
      exact ⟨ret_bool HE.out.symm, rfl⟩

theorem allB_part (wd : Nat) (qs : List Sq) (k : Nat) : (allB wd ((qs.take k).map Sq.P)).length ≤ (allB wd (qs.map Sq.P)).length := by
  have h : allB wd (qs.map Sq.P) = allB wd ((qs.take k).map Sq.P) ++ allB wd ((qs.drop k).map Sq.P) := by
    conv => lhs; rw [← List.take_append_drop k qs]
    unfold allB
    rw [List.map_append, List.map_append, List.flatten_append]
  rw [h, List.length_append]; omega

set_option maxRecDepth 100000 in
set_option maxHeartbeats 8000000 in
theorem refPrint_calls (wd : Int) (ao : Option Addr) (len cap : Nat) (qs : List Sq) (w : World) (hz : SqsAt w ao len qs) (hcap : len ≤ cap) (hsh : ∀ q ∈ qs, q.short) :
    Calls Try.prog 14 #[.int .i64 wd, .slice ao len cap] w fun e w' => PrintPost wd qs w e w' := by
  by_cases hlo : wd < 1
  · have HE : Hid (PrintPost wd qs w (.returned (.tuple #[.string ⟨#[]⟩, .int .i64 1])) w) := print_post (l := []) (n := 1) (by unfold printB; rw [if_pos (.inl hlo)]) rfl rfl (Below.refl _ _)
    have hd : decide (wd < 1) = true := by simp; omega
    go_enter Try.func14, Try.ntmps14
    go_wp2
    go_ret2
    exact HE.out
  by_cases hhi : 200 < wd
  · have HE : Hid (PrintPost wd qs w (.returned (.tuple #[.string ⟨#[]⟩, .int .i64 1])) w) := print_post (l := []) (n := 1) (by unfold printB; rw [if_pos (.inr hhi)]) rfl rfl (Below.refl _ _)
    have hd : decide (wd < 1) = false := by simp; omega
    have hd2 : decide (200 < wd) = true := by simp; omega
    go_enter Try.func14, Try.ntmps14
    go_wp2
    go_ret2
    exact HE.out
  have hd : decide (wd < 1) = false := by simp; omega
  have hd2 : decide (200 < wd) = false := by simp; omega
  by_cases hlen : 64 < len
  · have HE : Hid (PrintPost wd qs w (.returned (.tuple #[.string ⟨#[]⟩, .int .i64 2])) w) := print_post (l := []) (n := 2) (by unfold printB; rw [if_neg (by omega), if_pos (by rw [List.length_map, hz.length]; exact hlen)]) rfl rfl (Below.refl _ _)
    have hd3 : decide ((64 : Int) < len) = true := by simp; omega
    go_enter Try.func14, Try.ntmps14
    go_wp2
    go_ret2
    exact HE.out
  have hd3 : decide ((64 : Int) < len) = false := by simp; omega
  have hl64 : len ≤ 64 := by omega
  have HP : Hid (printB wd (qs.map Sq.P) = if okGo [] (qs.map Sq.P) = false then ([], 20) else if 1048576 < (allB wd.toNat (qs.map Sq.P)).length then ([], 2) else (allB wd.toNat (qs.map Sq.P), 0)) := by
    show printB _ _ = _
    unfold printB; rw [if_neg (by omega), if_neg (by rw [List.length_map, hz.length]; exact hlen)]
  have HZL : Hid (qs.length = len) := hz.length
  have HZ : Hid (SqsAt w ao len qs) := hz
  have HSh : Hid (∀ q ∈ qs, q.short) := hsh
  clear hz hsh hlen
  go_enter Try.func14, Try.ntmps14
  go_wp2
  go_loopw [6] (fun i wr => ∃ k : Nat, k ≤ len ∧ i = .int .i64 k ∧ okGo [] (qs.map Sq.P) = okGo ((qs.take k).map Sq.P) ((qs.drop k).map Sq.P) ∧ Below w.heap.size w wr) (fun i _ => len - (intOf i).toNat)
  case atStart => exact ⟨0, Nat.zero_le _, rfl, by simp, Below.refl _ _⟩
  case round =>
    obtain ⟨k, hk, rfl, hok, hbel⟩ := hrel
    have HOk : Hid (okGo [] (qs.map Sq.P) = okGo ((qs.take k).map Sq.P) ((qs.drop k).map Sq.P)) := hok
    have HB : Hid (Below w.heap.size w wr) := hbel
    clear hok hbel
    by_cases hlt : k < len
    · have hdk : decide ((k : Int) < (len : Int)) = true := by simp; omega
      obtain ⟨b, off, rfl, hcs⟩ := (HZ.out.below HB.out).cells (by omega)
      obtain ⟨q, hq⟩ : ∃ q, qs[k]? = some q := ⟨_, List.getElem?_eq_getElem (by rw [HZL.out]; exact hlt)⟩
      obtain ⟨hc1, hc2, hc3⟩ := hcs k q hq
      have hqs := HSh.out q (List.mem_of_getElem? hq)
      have HM : Hid (∀ w, Calls Try.prog 30 #[.agg #[.string q.1, .string q.2.1, .string q.2.2]] w fun e w' => e = .returned (.bool (okB q.P)) ∧ Below w.heap.size w w') := fun w => refRight_calls q w hqs
      have HStep := okGo_at qs k q hq
      have HSt2 : Hid (okGo ((qs.take k).map Sq.P) ((qs.drop k).map Sq.P) = (okB q.P && (!namedB ((qs.take k).map Sq.P) q.1.data.toList && okGo ((qs.take (k + 1)).map Sq.P) ((qs.drop (k + 1)).map Sq.P)))) := HStep
      have HQ : Hid (qs[k]? = some q) := hq
      clear hcs hq hqs HStep
      go_wp2_with fail
      refine (HM.out _).mono ?_
      rintro e w1 ⟨rfl, hb1⟩
      have HB1 : Hid (Below w.heap.size w w1) := HB.out.trans (hb1.mono HB.out.size)
      have hcx : w1.cell? ⟨b, off + k * 3, none⟩ = some (.string q.1) := by
        rw [hb1.cell (World.block_lt_of_cell? wr _ hc1)]; exact hc1
      have hkc : (k : Int) ≤ (cap : Int) := by omega
      have HNm : Hid (∀ W, (∃ n, W = w1.drewN n) → Calls Try.prog 31 #[.slice (some ⟨b, off, none⟩) k cap, .string q.1] W fun e w' => e = .returned (.bool (namedB ((qs.take k).map Sq.P) q.1.data.toList)) ∧ w' = W) := by
        rintro W ⟨n, rfl⟩
        exact refNamed_same _ k cap (qs.take k) q.1 _ ((HZ.out.below (below_drewN HB1.out n)).take k hk)
      clear hb1 HB hc1 hc2 hc3
      generalize hO : okB q.P = O at *
      generalize hN : namedB ((qs.take k).map Sq.P) q.1.data.toList = N at *
      have HBad : Hid (O = false ∨ N = true → ∀ w', Below w.heap.size w w' → PrintPost wd qs w (.returned (.tuple #[.string ⟨#[]⟩, .int .i64 20])) w') := by
        intro hh w' hb
        refine print_post (l := []) (n := 20) ?_ rfl rfl hb
        rw [HP.out, if_pos]
        rw [HOk.out, HSt2.out]
        rcases hh with h | h <;> rw [h] <;> simp
      have HGood : Hid (O = true → N = false → okGo [] (qs.map Sq.P) = okGo ((qs.take (k + 1)).map Sq.P) ((qs.drop (k + 1)).map Sq.P)) := by
        intro h1 h2
        rw [HOk.out, HSt2.out, h1, h2]; simp
      clear HSt2 HOk hO hN HM
      go_wp2_with fail
      go_quiet (first | (go_at_call 31; exact Calls.quiet_of_same (HNm.out _ ⟨_, rfl⟩)))
      have HB2 : Hid (Below w.heap.size w (w1.drewN nq)) := below_drewN HB1.out nq
      generalize w1.drewN nq = w2 at *
      clear HNm HB1 hcx
      cases O with
      | false =>
        have HE : Hid (PrintPost wd qs w (.returned (.tuple #[.string ⟨#[]⟩, .int .i64 20])) w2) := HBad.out (.inl rfl) w2 HB2.out
        clear HBad HGood HP
        go_wp2
        go_ret2
        exact HE.out
      | true =>
        cases N with
        | true =>
          have HE : Hid (PrintPost wd qs w (.returned (.tuple #[.string ⟨#[]⟩, .int .i64 20])) w2) := HBad.out (.inr rfl) w2 HB2.out
          clear HBad HGood HP
          go_wp2
          go_ret2
          exact HE.out
        | false =>
          have HNext : Hid (okGo [] (qs.map Sq.P) = okGo ((qs.take (k + 1)).map Sq.P) ((qs.drop (k + 1)).map Sq.P)) := HGood.out rfl rfl
          clear HBad HGood
          go_wp2
          go_roundw
          case rel => exact ⟨k + 1, by omega, by go_num, HNext.out, HB2.out⟩
          case measure => simp [intOf]; omega
    · have hall : okGo [] (qs.map Sq.P) = true := by
        rw [HOk.out, List.drop_of_length_le (by rw [HZL.out]; omega)]; rfl
      have HEach : Hid (∀ (j : Nat) (q : Sq), qs[j]? = some q → okB q.P = true) := fun j q hj => okGo_split _ [] j q.P (by rw [List.getElem?_map, hj]; rfl) hall
      have HP2 : Hid (printB wd (qs.map Sq.P) = if 1048576 < (allB wd.toNat (qs.map Sq.P)).length then ([], 2) else (allB wd.toNat (qs.map Sq.P), 0)) := by
        show printB _ _ = _
        rw [HP.out, if_neg (by rw [hall]; decide)]
      have hwn : wd = ((wd.toNat : Nat) : Int) := by omega
      have hw1n : 1 ≤ wd.toNat := by omega
      have hw2n : wd.toNat ≤ 200 := by omega
      clear hall HP HOk
      generalize hwq : wd.toNat = wn at *
      subst hwn
      clear hwq
      have hdl : decide ((k : Int) < (len : Int)) = false := by simp; omega
      obtain ⟨i0, hi, hz0, hz1, hz2⟩ := info_parts info5
      go_wp2_with fail
      go_loopw [9, 10] (fun v i wq => ∃ j : Nat, j ≤ len ∧ i = .int .i64 j ∧ wq.ownsRow w.heap.size 5 1 v (allB wn ((qs.take j).map Sq.P)).length (byteVals (allB wn ((qs.take j).map Sq.P))) ∧ Below w.heap.size w wq ∧ (allB wn ((qs.take j).map Sq.P)).length ≤ 1048576) (fun _ i _ => len - (intOf i).toNat)
      case atStart => exact ⟨0, Nat.zero_le _, rfl, World.ownsRow_nil _ _ _ _, HB.out, by simp [allB]⟩
      case round =>
        obtain ⟨j, hj, rfl, hown, hbel, hal⟩ := hrel
        generalize hac : allB wn ((qs.take j).map Sq.P) = acc at *
        have HAc : Hid (allB wn ((qs.take j).map Sq.P) = acc) := hac
        obtain ⟨ao0, cap0, rfl⟩ := owned_shape hown
        have HO : Hid (wr.ownsRow w.heap.size 5 1 (.slice ao0 acc.length cap0) acc.length (byteVals acc)) := hown
        have HBe : Hid (Below w.heap.size w wr) := hbel
        have hsw : w.heap.size ≤ wr.heap.size := hbel.size
        clear hown hbel hac HB
        by_cases hlt2 : j < len
        · have hdj : decide ((j : Int) < (len : Int)) = true := by simp; omega
          obtain ⟨b, off, rfl, hcs⟩ := (HZ.out.below HBe.out).cells (by omega)
          obtain ⟨q, hq⟩ : ∃ q, qs[j]? = some q := ⟨_, List.getElem?_eq_getElem (by rw [HZL.out]; exact hlt2)⟩
          obtain ⟨hc1, hc2, hc3⟩ := hcs j q hq
          have hokq := HEach.out j q hq
          have hsl := seqB_length wn q.P hokq
          simp only [okB, nameB, noteB, basesB, Bool.and_eq_true, decide_eq_true_eq, Sq.P, size_toList] at hokq
          have HNx2 : Hid (allB wn ((qs.take (j + 1)).map Sq.P) = acc ++ seqB wn q.P) := by
            show _ = _
            rw [allB_at wn qs j q hq, HAc.out]
          have HW : Hid (Calls Try.prog 32 #[.int .i64 wn, .agg #[.string q.1, .string q.2.1, .string q.2.2]] wr fun e w' => ∃ v, e = .returned v ∧ ByRow w' wr.heap.size v (seqB wn q.P) ∧ Below wr.heap.size wr w') := written_calls wn q wr hw1n hw2n hokq.1.2.1 hokq.2.1.1 hokq.2.2.2.1
          clear hcs hq hokq
          generalize hsq : seqB wn q.P = sq at *
          clear hsq
          go_wp2_with fail
          refine HW.out.mono ?_
          rintro e w3 ⟨v3, rfl, hby, hb3⟩
          have HO3 : Hid (w3.ownsRow w.heap.size 5 1 (.slice ao0 acc.length cap0) acc.length (byteVals acc)) := owned_below HO.out hb3
          have HB3 : Hid (Below w.heap.size w w3) := HBe.out.trans (hb3.mono hsw)
          have hs3 : w.heap.size ≤ w3.heap.size := HB3.out.size
          obtain ⟨g, gcap, cur, lo, hi', rfl, hg1, hg2, hg3, hg4, hg5⟩ := hby
          have HCells : Hid (∀ j u, (byteVals sq)[j]? = some u → w3.cell? ((⟨g, 0, none⟩ : Addr).add j) = some u) := fun j u hu => by
            rw [add_addr]; exact by_cell hg2 hg5 j u hu
          clear hb3 hg1 hg2 hg3 hg4 hg5 HW HO HBe hc1 hc2 hc3
          go_wp2_with (at_builtin; go_loud (refine wpList_append_own _ rfl _ _ 43 rfl w.heap.size 5 i0 (.int .u8 0) 1 1 Try.underlying43 hi hz0 hz1 hz2 rfl (by decide) _ _ _ rfl HO3.out ⟨g, 0, none⟩ sq.length gcap (byteVals sq) rfl ?c0 HCells.out ?c2 ?c3 ?c4 ?c5 ?_))
          case c0 => rw [byteVals_length]; omega
          case c2 =>
            intro u hu
            unfold byteVals at hu
            obtain ⟨c, _, rfl⟩ := List.mem_map.1 hu
            rfl
          case c3 => unfold maxLen; omega
          case c4 => omega
          case c5 => exact hs3
          intro v4 w4 ho4 hg4 _
          obtain ⟨ao4, cap4, rfl⟩ := owned_shape ho4
          have HO4 : Hid (w4.ownsRow w.heap.size 5 1 (.slice ao4 (acc.length + sq.length) cap4) (allB wn ((qs.take (j + 1)).map Sq.P)).length (byteVals (allB wn ((qs.take (j + 1)).map Sq.P)))) := by
            show World.ownsRow _ _ _ _ _ _ _
            rw [HNx2.out, byteVals_append, List.length_append]; exact ho4
          have HB4 : Hid (Below w.heap.size w w4) := HB3.out.grown hg4 hs3 (fun k hk => (HO3.out.lt k hk).1)
          clear ho4 hg4 HO3 HB3 HCells
          by_cases hbg : 1048576 < acc.length + sq.length
          · have hdg : decide ((1048576 : Int) < (acc.length : Int) + (sq.length : Int)) = true := by simp; omega
            have HE : Hid (PrintPost (wn : Int) qs w (.returned (.tuple #[.string ⟨#[]⟩, .int .i64 2])) w4) := print_post (l := []) (n := 2) (by
              rw [HP2.out, if_pos]
              have h1 := allB_part wn qs (j + 1)
              rw [HNx2.out, List.length_append] at h1
              omega) rfl rfl HB4.out
            generalize acc.length = al at *
            generalize sq.length = sl at *
            clear HO4 HP2
            go_wp2
            go_ret2
            exact HE.out
          · have hdg : decide ((1048576 : Int) < (acc.length : Int) + (sq.length : Int)) = false := by simp; omega
            have HL4 : Hid ((allB wn ((qs.take (j + 1)).map Sq.P)).length ≤ 1048576) := by
              show _ ≤ _
              rw [HNx2.out, List.length_append]; omega
            generalize acc.length = al at *
            generalize sq.length = sl at *
            go_wp2
            go_roundw
            case rel => exact ⟨j + 1, by omega, by go_num, HO4.out, HB4.out, HL4.out⟩
            case measure => simp [intOf]; omega
        · have hdj : decide ((j : Int) < (len : Int)) = false := by simp; omega
          have htk : qs.take j = qs := List.take_of_length_le (by rw [HZL.out]; omega)
          have hconv := owned_text HO.out
          have HE : Hid (PrintPost (wn : Int) qs w (.returned (.tuple #[.string ⟨acc.toArray⟩, .int .i64 0])) wr) := print_post (l := acc) (n := 0) (by
            have h1 := HAc.out
            rw [htk] at h1
            rw [HP2.out, h1, if_neg (by omega)]) (mk_list _) rfl HBe.out
          clear htk HP2 HAc
          generalize acc.length = al at *
          go_wp2
          go_ret2
          exact HE.out
end Go.Proofs.Ytcleejdlmamdhaa
