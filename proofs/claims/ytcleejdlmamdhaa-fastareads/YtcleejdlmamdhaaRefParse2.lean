/-
  The walk of the document's own Parse.
-/
import Derived.Test.YtcleejdlmamdhaaRefParse
namespace Go.Proofs.Ytcleejdlmamdhaa
open Go.RowKit

theorem beginB_all {st st' : List Pq} {t : List UInt8} (h : beginB st t = some st') (ha : ∀ q ∈ st, q.2.2.length ≤ 65536) : ∀ q ∈ st', q.2.2.length ≤ 65536 := by
  unfold beginB at h
  split at h
  · cases h
    intro q hq
    rcases List.mem_cons.1 hq with rfl | hq
    · simp
    · exact ha q hq
  · cases h

set_option maxRecDepth 100000 in
set_option maxHeartbeats 8000000 in
theorem refParse_calls (text : ByteArray) (w : World) : Calls Try.prog 10 #[.string text] w fun e w' => ParsePost text w e w' := by
  by_cases hbig : 1048576 < text.size
  · have HE : Hid (ParsePost text w (.returned (.tuple #[.slice none 0 0, .int .i64 0, .int .i64 2])) w) :=
      parse_post (l := []) (k := 0) (n := 2) (qs := []) (by unfold parseB; rw [size_toList, if_pos hbig]) (World.ownsRow_nil _ _ _ _) rfl (Below.refl _ _) rfl rfl
    have hd : decide ((1048576 : Int) < text.size) = true := by simp; omega
    go_enter Try.func10, Try.ntmps10
    go_wp2
    go_ret3
    exact HE.out
  · have hd : decide ((1048576 : Int) < text.size) = false := by simp; omega
    have HP : Hid (parseB text.data.toList = goB [] 0 (linesB text.data.toList)) := by
      show parseB _ = _
      unfold parseB; rw [size_toList, if_neg hbig]
    go_enter Try.func10, Try.ntmps10
    go_wp2_with fail
    refine (refLines_calls text w (by omega)).mono ?_
    rintro e w1 ⟨lv, ls, rfl, hlo, hls, hb1⟩
    obtain ⟨lao, lcap, rfl⟩ := owned_shape hlo
    have HLO : Hid (w1.ownsRow w.heap.size 9 1 (.slice lao ls.length lcap) ls.length (strVals ls)) := hlo
    have HLS : Hid (ls.map (fun s => s.data.toList) = linesB text.data.toList) := hls
    have HB1 : Hid (Below w.heap.size w w1) := hb1
    have hnl : ls.length ≤ 1048576 := by
      have h1 := congrArg List.length hls
      have h2 := linesB_length text.data.toList []
      simp at h1
      unfold linesB at h1
      simp at h2
      omega
    have HEach : Hid (∀ (k : Nat) (x : ByteArray), ls[k]? = some x → x.size ≤ 1048576) := by
      intro k x hx
      have h1 : x.data.toList ∈ linesB text.data.toList := by
        rw [← hls]; exact List.mem_map_of_mem (List.mem_of_getElem? hx)
      have h2 := linesGo_each text.data.toList [] _ h1
      rw [size_toList, size_toList] at h2; simp at h2; omega
    clear hlo hls hb1
    generalize hnn : ls.length = nl at *
    have HNL : Hid (ls.length = nl) := hnn
    clear hnn
    have hB : w1.heap.size ≤ w1.heap.size := Nat.le_refl _
    go_wp2_with fail
    go_loopw [6, 7] (fun v c wr => ∃ (k : Nat) (qs : List Sq) (st : List Pq), k ≤ nl ∧ c = .int .i64 k ∧ RowIs w1.heap.size v qs st wr ∧ Below w1.heap.size w1 wr ∧ st.length ≤ 64 ∧ (∀ q ∈ st, q.2.2.length ≤ 65536) ∧ goB st k ((linesB text.data.toList).drop k) = parseB text.data.toList) (fun _ c _ => nl - (intOf c).toNat)
    case atStart => exact ⟨0, [], [], Nat.zero_le _, rfl, ⟨World.ownsRow_nil _ _ _ _, rfl⟩, Below.refl _ _, by decide, by simp, by rw [HP.out]; rfl⟩
    case round =>
      obtain ⟨k, qs, st, hk, rfl, hrow, hbel, hst, hall, hgo⟩ := hrel
      have HAll : Hid (∀ q ∈ st, q.2.2.length ≤ 65536) := hall
      clear hall
      obtain ⟨ao, cap, rfl⟩ := owned_shape hrow.1
      have HR0 : Hid (RowIs w1.heap.size (.slice ao qs.length cap) qs st wr) := hrow
      obtain ⟨hn1, hn2⟩ := hrow.length
      generalize hnq : qs.length = n at *
      have HR : Hid (RowIs w1.heap.size (.slice ao n cap) qs st wr) := HR0
      have HB : Hid (Below w1.heap.size w1 wr) := hbel
      have HG : Hid (goB st k ((linesB text.data.toList).drop k) = parseB text.data.toList) := hgo
      have hBw : w1.heap.size ≤ wr.heap.size := hbel.size
      have HNS : Hid (st.length = n) := hn2
      have HNQ : Hid (qs.length = n) := hnq
      have hn64 : n ≤ 64 := by omega
      clear HR0 hrow hbel hgo hn1 hnq HP hst hn2
      by_cases hlt : k < nl
      · obtain ⟨x, hx⟩ : ∃ x, ls[k]? = some x := ⟨_, List.getElem?_eq_getElem (by rw [HNL.out]; exact hlt)⟩
        have hxs := HEach.out k x hx
        have HLW : Hid (wr.ownsRow w.heap.size 9 1 (.slice lao nl lcap) nl (strVals ls)) := owned_below HLO.out HB.out
        obtain ⟨lg, rfl⟩ : ∃ g, lao = some ⟨g, 0, none⟩ := by
          rcases HLW.out.2 with ⟨hv, hz⟩ | ⟨g, cap', cur, hv, _⟩
          · omega
          · cases hv; exact ⟨g, rfl⟩
        have hlc := (owned_cells HLW.out k (.string x) (by simp [strVals, hx])).1
        have HG2 : Hid (goB st k (x.data.toList :: (linesB text.data.toList).drop (k + 1)) = parseB text.data.toList) := by
          have := HG.out
          have e : (linesB text.data.toList).drop k = x.data.toList :: (linesB text.data.toList).drop (k + 1) := by
            rw [List.drop_eq_getElem_cons (by rw [← HLS.out]; simp [HNL.out]; omega)]
            congr 1
            have h1 : (linesB text.data.toList)[k]? = some x.data.toList := by rw [← HLS.out]; simp [hx]
            exact Option.some.inj ((List.getElem?_eq_getElem _).symm.trans h1)
          rw [e] at this; exact this
        clear hx HG HLO HLS HEach HLW
        by_cases h0 : x.toList = []
        · have HG3 : Hid (goB st (k + 1) ((linesB text.data.toList).drop (k + 1)) = parseB text.data.toList) := by
            have := HG2.out; rw [toList_nil.1 h0] at this; exact this
          clear HG2
          go_wp2
          go_roundw
          case rel => exact ⟨k + 1, qs, st, by omega, by go_num, HR.out, HB.out, by rw [HNS.out]; exact hn64, HAll.out, HG3.out⟩
          case measure => simp [intOf]; omega
        · have hp := toList_size h0
          have e1 : x.toList.isEmpty = false := by
            cases hr : x.toList with
            | nil => exact absurd hr h0
            | cons _ _ => rfl
          clear h0
          have HBad : Hid (∀ w', Below w1.heap.size w1 w' → stepB st x.data.toList = none → ParsePost text w (.returned (.tuple #[.slice none 0 0, .int .i64 ((k : Int) + 1), .int .i64 20])) w') := by
            intro w' hb ho
            exact parse_post (l := []) (k := k + 1) (n := 20) (qs := []) (by rw [← HG2.out]; simp [goB, ho]) (World.ownsRow_nil _ _ _ _) rfl (HB1.out.trans (hb.mono HB1.out.size)) (by simp) rfl
          have HGo : Hid (∀ st', stepB st x.data.toList = some st' → goB st' (k + 1) ((linesB text.data.toList).drop (k + 1)) = parseB text.data.toList) := by
            intro st' ho
            have := HG2.out; simp only [goB, ho] at this; exact this
          clear HG2 HB1
          by_cases hc : (x[0].toNat : Int) = 62
          · have hd4 : ((x[0].toNat : Int) == 62) = true := by simp [hc]
            rw [stepB_begin st hp hc] at HBad HGo
            have HC : Hid (Calls Try.prog 23 #[.slice ao n cap, .string x] wr fun e w' => BeginsPost w1.heap.size (.slice ao n cap) (beginB st (x.data.toList.drop 1)) wr e w') := begins_calls w1.heap.size ao n cap qs st x wr HR.out hBw hn64 hxs hp
            clear hc HR
            go_wp2_with fail
            refine HC.out.mono ?_
            rintro e w3 ⟨hb3, hpost⟩
            cases ho : beginB st (x.data.toList.drop 1) with
            | none =>
              rw [ho] at hpost
              subst hpost
              have HE2 : Hid (ParsePost text w (.returned (.tuple #[.slice none 0 0, .int .i64 ((k : Int) + 1), .int .i64 20])) w3) := HBad.out w3 (HB.out.trans hb3) ho
              clear ho hb3 HBad HGo HC HB HNS HNQ HNL
              go_wp2
              go_ret3
              exact HE2.out
            | some st' =>
              rw [ho] at hpost
              obtain ⟨v', qs', rfl, hrow'⟩ := hpost
              obtain ⟨ao3, cap3, hv3⟩ := owned_shape hrow'.1
              subst hv3
              have HR3 : Hid (RowIs w1.heap.size (.slice ao3 qs'.length cap3) qs' st' w3) := hrow'
              have HB3 : Hid (Below w1.heap.size w1 w3) := HB.out.trans hb3
              have HG3 : Hid (goB st' (k + 1) ((linesB text.data.toList).drop (k + 1)) = parseB text.data.toList) := HGo.out st' ho
              have HL3 : Hid (st'.length ≤ 64) := beginB_length ho
              have HA3 : Hid (∀ q ∈ st', q.2.2.length ≤ 65536) := beginB_all ho HAll.out
              clear ho hb3 hrow' HBad HGo HC HB HNS HNQ HNL
              generalize qs'.length = n3 at *
              go_wp2
              go_roundw
              case rel => exact ⟨k + 1, qs', st', by omega, by go_num, HR3.out, HB3.out, HL3.out, HA3.out, HG3.out⟩
              case measure => simp [intOf]; omega
          · have hd4 : ((x[0].toNat : Int) == 62) = false := by simp [hc]
            rw [stepB_add st hp hc] at HBad HGo
            have HLe : Hid (∀ w, Calls Try.prog 24 #[.string x] w fun e w' => e = .returned (.int .i64 (letN x.data.toList : Int)) ∧ w' = w) := fun w => letters_calls x w (by unfold maxLen; omega)
            have hln : letN x.data.toList ≤ x.size := by have := letN_le x.data.toList; rwa [size_toList] at this
            clear hc
            cases st with
            | nil =>
              have hn0 : n = 0 := by have := HNS.out; simp at this; omega
              subst hn0
              have HE2 : Hid (ParsePost text w (.returned (.tuple #[.slice none 0 0, .int .i64 ((k : Int) + 1), .int .i64 20])) wr) := HBad.out wr HB.out rfl
              have hdz : (((0 : Nat) : Int) == 0) = true := by simp
              clear HBad HGo HB HNS HNQ HNL HR
              go_wp2_with (go_at_call 24; refine (HLe.out _).mono ?_; rintro e w' ⟨rfl, rfl⟩)
              go_ret3
              exact HE2.out
            | cons q t =>
              obtain ⟨g, m, q0, qs0, rfl, rfl, rfl, hm1, hm2, hm3, hm4, hcell, hfr⟩ := last_cell HR.out
              have hdz : (((m + 1 : Nat) : Int) == 0) = false := by simp; omega
              have hqb : q.2.2 = q0.2.2.data.toList := by rw [← hm3]; rfl
              have hqs : q0.2.2.size ≤ 65536 := by
                have := HAll.out q (by simp); rwa [hqb, size_toList] at this
              by_cases hlet : letN x.data.toList < x.size
              · have HE2 : Hid (ParsePost text w (.returned (.tuple #[.slice none 0 0, .int .i64 ((k : Int) + 1), .int .i64 20])) wr) := HBad.out wr HB.out (addB_bad (.inl (by rw [size_toList]; exact hlet)))
                generalize letN x.data.toList = ln at *
                have hdl : decide ((ln : Int) < (x.size : Int)) = true := decide_eq_true (by omega)
                clear HBad HGo HB HNS HNQ HNL HR hm1 hm2 hm3 hm4 hqb
                go_wp2_with (go_at_call 24; refine (HLe.out _).mono ?_; rintro e w' ⟨rfl, rfl⟩)
                go_ret3
                exact HE2.out
              · have hle : letN x.data.toList = x.size := by omega
                by_cases hlong : 65536 < q0.2.2.size + x.size
                · have HE2 : Hid (ParsePost text w (.returned (.tuple #[.slice none 0 0, .int .i64 ((k : Int) + 1), .int .i64 20])) wr) := HBad.out wr HB.out (addB_bad (.inr (by rw [hqb, size_toList, size_toList]; exact hlong)))
                  rw [hle] at HLe
                  have hdl : decide ((x.size : Int) < (x.size : Int)) = false := by simp
                  have hdg : decide ((65536 : Int) < (q0.2.2.size : Int) + (x.size : Int)) = true := decide_eq_true (by omega)
                  clear HBad HGo HB HNS HNQ HNL HR hm1 hm2 hm3 hm4 hqb hle hlet hln
                  go_wp2_with (go_at_call 24; refine (HLe.out _).mono ?_; rintro e w' ⟨rfl, rfl⟩)
                  go_ret3
                  exact HE2.out
                · have hadd := addB_good (q := q) (t := t) (l := x.data.toList) (by rw [size_toList]; exact hlet) (by rw [hqb, size_toList, size_toList]; omega)
                  have HG3 : Hid (goB ((q.1, q.2.1, q.2.2 ++ x.data.toList) :: t) (k + 1) ((linesB text.data.toList).drop (k + 1)) = parseB text.data.toList) := HGo.out _ hadd
                  rw [hle] at HLe
                  have hdl : decide ((x.size : Int) < (x.size : Int)) = false := by simp
                  have hdg : decide ((65536 : Int) < (q0.2.2.size : Int) + (x.size : Int)) = false := decide_eq_false (by omega)
                  clear HBad HGo hle hlet hln hadd
                  go_wp2_with (go_at_call 24; refine (HLe.out _).mono ?_; rintro e w' ⟨rfl, rfl⟩)
                  have HM : Hid (qs0.length = m ∧ qs0.map Sq.P = t.reverse ∧ q0.P = q) := ⟨hm1, hm2, hm3⟩
                  have HA3 : Hid (∀ p ∈ ((q.1, q.2.1, q.2.2 ++ x.data.toList) :: t : List Pq), p.2.2.length ≤ 65536) := by
                    intro p hp
                    rcases List.mem_cons.1 hp with rfl | hp
                    · simp only [List.length_append, hqb, size_toList]; omega
                    · exact HAll.out p (List.mem_cons_of_mem _ hp)
                  have hcat : ∀ W, (Op.stringOp .add q0.2.2 x).run Try.prog W = .ok (.string (q0.2.2 ++ x)) W := fun W => run_string_add_sum W _ _ (by omega)
                  clear hm1 hm2 hm3 hqb HLe hlong
                  go_region
                  have HR3 : Hid (RowIs w1.heap.size (.slice (some ⟨g, 0, none⟩) (m + 1) cap) (qs0 ++ [(q0.1, q0.2.1, q0.2.2 ++ x)]) ((q.1, q.2.1, q.2.2 ++ x.data.toList) :: t) (w'.setCell ⟨g, m * 3 + 2, none⟩ (.string (q0.2.2 ++ x))).drew) := by
                    have h0 := HR.out.1
                    rw [HNQ.out] at h0
                    have h1 := owned_set h0 (m * 3 + 2) (.string (q0.2.2 ++ x))
                    obtain ⟨e1, e2, e3⟩ := HM.out
                    have h2 := rowCells_set qs0 q0 (q0.2.2 ++ x)
                    rw [e1] at h2
                    rw [h2] at h1
                    refine ⟨?_, ?_⟩
                    · have h3 : (qs0 ++ [(q0.1, q0.2.1, q0.2.2 ++ x)]).length = m + 1 := by simp [e1]
                      rw [h3]; exact h1.drew
                    · rw [List.map_append, e2, List.reverse_cons, ← e3]
                      simp [Sq.P]
                  have HB3 : Hid (Below w1.heap.size w1 (w'.setCell ⟨g, m * 3 + 2, none⟩ (.string (q0.2.2 ++ x))).drew) := (HB.out.setCell (p := ⟨g, m * 3 + 2, none⟩) hm4 _).drew
                  have HL3 : Hid (((q.1, q.2.1, q.2.2 ++ x.data.toList) :: t : List Pq).length ≤ 64) := by
                    have := HNS.out; show _ ≤ _; simp at this ⊢; omega
                  clear HR HB HM HAll HNS HNQ HNL
                  go_wp2
                  go_roundw
                  case rel => exact ⟨k + 1, _, _, by omega, by go_num, HR3.out, HB3.out, HL3.out, HA3.out, HG3.out⟩
                  case measure => simp [intOf]; omega
      · have HGE : Hid (goB st k [] = parseB text.data.toList) := by
          have := HG.out
          rwa [List.drop_of_length_le (by rw [← HLS.out]; simp [HNL.out]; omega)] at this
        have hkn : k = nl := by omega
        subst hkn
        have HBw : Hid (Below w.heap.size w wr) := HB1.out.trans (HB.out.mono HB1.out.size)
        have HEnd : Hid (openB st = false → ParsePost text w (.returned (.tuple #[.slice ao n cap, .int .i64 0, .int .i64 0])) wr) := by
          intro ho
          refine parse_post (l := st.reverse) (k := 0) (n := 0) (qs := qs) (by rw [← HGE.out]; simp [goB, ho]) (owned_base HR.out.1 HB1.out.size) HR.out.2 HBw.out rfl rfl
        have HBad : Hid (openB st = true → ParsePost text w (.returned (.tuple #[.slice none 0 0, .int .i64 ((k : Int) + 1), .int .i64 20])) wr) := by
          intro ho
          exact parse_post (l := []) (k := k + 1) (n := 20) (qs := []) (by rw [← HGE.out]; simp [goB, ho]) (World.ownsRow_nil _ _ _ _) rfl HBw.out (by simp) rfl
        clear HG HLO HLS HB1 HEach HB HGE HBw
        cases st with
        | nil =>
          have hn0 : n = 0 := by have := HNS.out; simp at this; omega
          subst hn0
          have HE := HEnd.out rfl
          have HE2 : Hid (ParsePost text w (.returned (.tuple #[.slice ao 0 cap, .int .i64 0, .int .i64 0])) wr) := HE
          have hdp : decide ((0 : Int) < ((0 : Nat) : Int)) = false := by simp
          clear HE HEnd HBad HR HNS HNQ HNL
          go_wp2
          go_ret3
          exact HE2.out
        | cons q t =>
          obtain ⟨g, m, q0, qs0, rfl, rfl, rfl, hm1, hm2, hm3, hm4, hcell, _⟩ := last_cell HR.out
          have hdp : decide ((0 : Int) < ((m + 1 : Nat) : Int)) = true := decide_eq_true (by omega)
          cases hop : openB (q :: t) with
          | true =>
            have HE2 : Hid (ParsePost text w (.returned (.tuple #[.slice none 0 0, .int .i64 ((k : Int) + 1), .int .i64 20])) wr) := HBad.out hop
            have hq : q0.2.2.toList = [] := by
              rw [toList_nil]
              have e1 : q.2.2 = [] := by simpa [openB] using hop
              rw [← hm3] at e1; exact e1
            clear hop HEnd HBad HR HNS HNQ HNL hm1 hm2 hm3 hm4
            go_wp2
            go_ret3
            exact HE2.out
          | false =>
            have HE2 : Hid (ParsePost text w (.returned (.tuple #[.slice (some ⟨g, 0, none⟩) (m + 1) cap, .int .i64 0, .int .i64 0])) wr) := HEnd.out hop
            have hq : q0.2.2.toList.isEmpty = false := by
              have e1 : ¬ q.2.2 = [] := by simpa [openB] using hop
              cases hr : q0.2.2.toList with
              | nil => exfalso; apply e1; rw [← hm3]; exact toList_nil.1 hr
              | cons _ _ => rfl
            clear hop HEnd HBad HR HNS HNQ HNL hm1 hm2 hm3 hm4
            go_wp2
            go_ret3
            exact HE2.out
end Go.Proofs.Ytcleejdlmamdhaa
