/-
  The walk of the document's own Parse.
-/
import Derived.Test.YtcpoiaclicmmmaaRefParse
namespace Go.Proofs.Ytcpoiaclicmmmaa
open Go.RowKit

theorem new_cells2 (W : World) (q : Rd) (n : Nat) (h : W.heap.size = n) : ∀ j u, (rdCells q)[j]? = some u → (W.alloc (.cells #[.string q.1, .string q.2.1, .string q.2.2.1, .string q.2.2.2] 29)).cell? ((⟨n, 0, none⟩ : Addr).add j) = some u := by
  subst h
  exact new_cells W q
theorem wrongQ_le {l : List (List UInt8)} {k : Nat} (h : wrongQ l = some k) : k ≤ 3 := by
  unfold wrongQ at h
  repeat' (split at h)
  all_goals (first | (cases h; done) | (simp at h; omega))
theorem take_cons_drop {ls : List ByteArray} {k m : Nat} {x : ByteArray} (hx : ls[k]? = some x) (hm : 0 < m) : ∃ r, (ls.drop k).take m = x :: r ∧ r = (ls.drop (k + 1)).take (m - 1) := by
  obtain ⟨hlt, he⟩ := List.getElem?_eq_some_iff.1 hx
  rw [List.drop_eq_getElem_cons hlt, he]
  obtain ⟨d, rfl⟩ : ∃ d, m = d + 1 := ⟨m - 1, by omega⟩
  exact ⟨_, rfl, by simp⟩
theorem drop_take_get {ls : List ByteArray} {k m i : Nat} {y : ByteArray} (h : ((ls.drop k).take m)[i]? = some y) : ls[k + i]? = some y := by
  rw [List.getElem?_take] at h
  split at h
  · rwa [List.getElem?_drop] at h
  · cases h

set_option maxRecDepth 100000 in
set_option maxHeartbeats 8000000 in
theorem refParse_calls (text : ByteArray) (w : World) : Calls Try.prog 9 #[.string text] w fun e w' => ParsePost text w e w' := by
  by_cases hbig : 1048576 < text.size
  · have HE : Hid (ParsePost text w (.returned (.tuple #[.slice none 0 0, .int .i64 0, .int .i64 2])) w) :=
      parse_post (l := []) (k := 0) (n := 2) (qs := []) (by unfold parseQ; rw [size_toList, if_pos hbig]) (World.ownsRow_nil _ _ _ _) rfl (Below.refl _ _) rfl rfl
    have hd : decide ((1048576 : Int) < text.size) = true := by simp; omega
    go_enter Try.func9, Try.ntmps9
    go_wp2
    go_ret3
    exact HE.out
  · have hd : decide ((1048576 : Int) < text.size) = false := by simp; omega
    have HP : Hid (parseQ text.data.toList = goQ [] .p0 0 (linesB text.data.toList)) := by
      show parseQ _ = _
      unfold parseQ; rw [size_toList, if_neg hbig]
    go_enter Try.func9, Try.ntmps9
    go_wp2_with fail
    refine (refLines_calls text w (by omega)).mono ?_
    rintro e w1 ⟨lv, ls, rfl, hlo, hls, hb1⟩
    obtain ⟨lao, lcap, rfl⟩ := owned_shape hlo
    have HLO : Hid (w1.ownsRow w.heap.size 9 1 (.slice lao ls.length lcap) ls.length (strVals ls)) := hlo
    have HLS : Hid (ls.map (fun s => s.data.toList) = linesB text.data.toList) := hls
    have HB1 : Hid (Below w.heap.size w w1) := hb1
    have hcap := owned_cap hlo
    have hnl : ls.length ≤ 1048576 := by
      have h1 := congrArg List.length hls
      have h2 := linesB_length text.data.toList []
      simp at h1
      unfold linesB at h1
      simp at h2
      omega
    have HEach : Hid (∀ (k : Nat) (x : ByteArray), ls[k]? = some x → x.size ≤ 1048576) := by
      intro k x hx
      have h1 : x.data.toList ∈ linesB text.data.toList := by
        rw [← hls]; exact List.mem_map_of_mem (List.mem_of_getElem? hx)
      have h2 := linesGo_each text.data.toList [] _ h1
      rw [size_toList, size_toList] at h2; simp at h2; omega
    clear hlo hls hb1
    generalize hnn : ls.length = nl at *
    have HNL : Hid (ls.length = nl) := hnn
    clear hnn
    go_wp2_with fail
    go_loopw [6, 7] (fun v c wr => ∃ (k : Nat) (qs : List Rd) (st : List Pr), k ≤ nl ∧ c = .int .i64 k ∧ RowIs w1.heap.size v qs st wr ∧ Below w1.heap.size w1 wr ∧ st.length ≤ 256 ∧ goQ st .p0 k ((linesB text.data.toList).drop k) = parseQ text.data.toList) (fun _ c _ => nl - (intOf c).toNat)
    case atStart => exact ⟨0, [], [], Nat.zero_le _, rfl, ⟨World.ownsRow_nil _ _ _ _, rfl⟩, Below.refl _ _, by decide, by rw [HP.out]; rfl⟩
    case round =>
      obtain ⟨k, qs, st, hk, rfl, hrow, hbel, hst, hgo⟩ := hrel
      obtain ⟨ao, cap, rfl⟩ := owned_shape hrow.1
      have HR0 : Hid (RowIs w1.heap.size (.slice ao qs.length cap) qs st wr) := hrow
      have hn2 : st.length = qs.length := (rds_length hrow.2).symm
      generalize hnq : qs.length = n at *
      have HR : Hid (RowIs w1.heap.size (.slice ao n cap) qs st wr) := HR0
      have HB : Hid (Below w1.heap.size w1 wr) := hbel
      have HG : Hid (goQ st .p0 k ((linesB text.data.toList).drop k) = parseQ text.data.toList) := hgo
      have hBw : w1.heap.size ≤ wr.heap.size := hbel.size
      have HNS : Hid (st.length = n) := hn2
      have HNQ : Hid (qs.length = n) := hnq
      have hn256 : n ≤ 256 := by omega
      clear HR0 hrow hbel hgo hnq HP hst hn2
      by_cases hlt : k < nl
      · obtain ⟨x, hx⟩ : ∃ x, ls[k]? = some x := ⟨_, List.getElem?_eq_getElem (by rw [HNL.out]; exact hlt)⟩
        have HLW : Hid (wr.ownsRow w.heap.size 9 1 (.slice lao nl lcap) nl (strVals ls)) := owned_below HLO.out HB.out
        obtain ⟨lg, rfl⟩ : ∃ g, lao = some ⟨g, 0, none⟩ := by
          rcases HLW.out.2 with ⟨hv, hz⟩ | ⟨g, cap', cur, hv, _⟩
          · omega
          · cases hv; exact ⟨g, rfl⟩
        have hlc := (owned_cells HLW.out k (.string x) (by simp [strVals, hx])).1
        have HLC : Hid (∀ i y, ls[i]? = some y → wr.cell? ⟨lg, i, none⟩ = some (.string y)) := fun i y hy => (owned_cells HLW.out i (.string y) (by simp [strVals, hy])).1
        have HD : Hid (∀ j, (linesB text.data.toList).drop j = (ls.drop j).map fun s => s.data.toList) := fun j => by rw [← HLS.out, List.map_drop]
        clear HLW
        by_cases h0 : x.toList = []
        · have HG3 : Hid (goQ st .p0 (k + 1) ((linesB text.data.toList).drop (k + 1)) = parseQ text.data.toList) := by
            have := HG.out
            rw [HD.out, List.drop_eq_getElem_cons (List.getElem?_eq_some_iff.1 hx).1, (List.getElem?_eq_some_iff.1 hx).2, List.map_cons, toList_nil.1 h0] at this
            show goQ _ _ _ _ = _
            rw [HD.out]; exact this
          clear HG HLO HEach HLC HD hx
          go_wp2
          go_roundw
          case rel => exact ⟨k + 1, qs, st, by omega, by go_num, HR.out, HB.out, by rw [HNS.out]; exact hn256, HG3.out⟩
          case measure => simp [intOf]; omega
        · have hp := toList_size h0
          have e1 : x.toList.isEmpty = false := by
            cases hr : x.toList with
            | nil => exact absurd hr h0
            | cons _ _ => rfl
          have HX0 : Hid (x.data.toList ≠ []) := fun e => h0 (toList_nil.2 e)
          clear h0
          obtain ⟨m, z, hm1, hm4, hmz, hmn, hmd⟩ : ∃ (m : Nat) (z : Int), 0 < m ∧ m ≤ 4 ∧ z = ((k + m : Nat) : Int) ∧ k + m ≤ nl ∧ ((nl < k + 4 ∧ z = (nl : Int) ∧ m = nl - k) ∨ (k + 4 ≤ nl ∧ z = (k : Int) + 4 ∧ m = 4)) := by
            by_cases h4 : k + 4 ≤ nl
            · exact ⟨4, (k : Int) + 4, by omega, by omega, by omega, by omega, .inr ⟨h4, rfl, rfl⟩⟩
            · exact ⟨nl - k, (nl : Int), by omega, by omega, by omega, by omega, .inl ⟨by omega, rfl, rfl⟩⟩
          obtain ⟨r, hr, hr2⟩ := take_cons_drop hx hm1
          have HT4 : Hid ((((linesB text.data.toList).drop k).take 4) = (x :: r).map fun s => s.data.toList) := by
            show _ = _
            rw [HD.out, ← List.map_take, ← hr]
            rcases hmd with ⟨h1, _, h3⟩ | ⟨_, _, h3⟩
            · congr 1
              rw [List.take_of_length_le (by simp [HNL.out]; omega), List.take_of_length_le (by simp [HNL.out]; omega)]
            · rw [h3]
          have HW : Hid (Calls Try.prog 21 #[.slice (some ⟨lg, k, none⟩) m (lcap - k)] wr fun e w' => WrongPost (x :: r) wr e w') := by
            refine wrong_calls lg k m (lcap - k) x r wr ?_ hm4 ?_ ?_ hp
            · rw [← hr]; simp [HNL.out]; omega
            · intro i y hy
              rw [← hr] at hy
              exact HLC.out _ _ (drop_take_get hy)
            · intro y hy
              rw [← hr] at hy
              obtain ⟨i, hi⟩ := List.getElem?_of_mem hy
              exact HEach.out _ _ (drop_take_get hi)
          have HDr : Hid ((linesB text.data.toList).drop k = x.data.toList :: (linesB text.data.toList).drop (k + 1)) := by
            show _ = _
            rw [HD.out, HD.out, List.drop_eq_getElem_cons (List.getElem?_eq_some_iff.1 hx).1, (List.getElem?_eq_some_iff.1 hx).2, List.map_cons]
          have HFull : Hid (n = 256 → ∀ w', Below w1.heap.size w1 w' → ParsePost text w (.returned (.tuple #[.slice none 0 0, .int .i64 ((k : Int) + 0 + 1), .int .i64 30])) w') := by
            intro h256 w' hb
            exact parse_post (l := []) (k := k + 1) (n := 30) (qs := []) (by rw [← HG.out, HDr.out]; exact goQ_full HX0.out (by rw [HNS.out]; omega)) (World.ownsRow_nil _ _ _ _) rfl (HB1.out.trans (hb.mono HB1.out.size)) (by simp) rfl
          have HBad : Hid (n < 256 → ∀ kk, wrongQ ((x :: r).map fun s => s.data.toList) = some kk → ∀ w', Below w1.heap.size w1 w' → ParsePost text w (.returned (.tuple #[.slice none 0 0, .int .i64 ((k : Int) + (kk : Int) + 1), .int .i64 30])) w') := by
            intro h256 kk hkk w' hb
            refine parse_post (l := []) (k := k + kk + 1) (n := 30) (qs := []) ?_ (World.ownsRow_nil _ _ _ _) rfl (HB1.out.trans (hb.mono HB1.out.size)) (by simp) rfl
            rw [← HT4.out] at hkk
            rw [HDr.out] at hkk
            rw [← HG.out, HDr.out]
            exact (goQ_four HX0.out (by rw [HNS.out]; exact h256)).1 kk hkk
          have HGood : Hid (n < 256 → wrongQ ((x :: r).map fun s => s.data.toList) = none → ∃ x1 x2 x3, x :: r = [x, x1, x2, x3] ∧ k + 4 ≤ nl ∧ goQ (readOf x.data.toList.tail x1.data.toList x3.data.toList :: st) .p0 (k + 4) ((linesB text.data.toList).drop (k + 4)) = parseQ text.data.toList) := by
            intro h256 hkk
            have hkk' := hkk
            rw [← HT4.out] at hkk
            rw [HDr.out] at hkk
            obtain ⟨l1, l2, l3, rr, e1, e2⟩ := (goQ_four (i := k) HX0.out (by rw [HNS.out]; exact h256)).2 hkk
            have e3 := HT4.out
            rw [HDr.out, e1] at e3
            have hlen : k + 4 ≤ nl := by
              have := congrArg List.length (HDr.out.trans (by rw [e1]))
              rw [← HLS.out] at this
              simp [HNL.out] at this
              omega
            cases r with
            | nil => simp at e3
            | cons x1 r => cases r with
              | nil => simp at e3
              | cons x2 r => cases r with
                | nil => simp at e3
                | cons x3 r =>
                  simp at e3
                  obtain ⟨f1, f2, f3, f4⟩ := e3
                  subst f4
                  refine ⟨x1, x2, x3, rfl, hlen, ?_⟩
                  have e4 : (linesB text.data.toList).drop (k + 4) = rr := by
                    have := congrArg (List.drop 4) (HDr.out.trans (by rw [e1]))
                    rw [List.drop_drop] at this
                    simpa using this
                  rw [e4, ← f1, ← f3, ← e2, ← HDr.out]
                  exact HG.out
          clear HG HLO HLS HEach HLC HD hx hr hr2 HT4 HDr HX0
          have HWW : Hid (∀ w', Below wr.heap.size wr w' → Below w1.heap.size w1 w') := fun w' hb => HB.out.trans (hb.mono hBw)
          clear hmz hmn
          rcases hmd with ⟨h1, hz, hm⟩ | ⟨h1, hz, hm⟩
          · subst hz
            subst hm
            have hdm : decide ((nl : Int) < (k : Int) + 4) = true := by simp; omega
            go_wp2_with fail
            refine HW.out.mono ?_
            rintro e w3 ⟨hb3, q, hpost⟩
            have HB3 : Hid (Below wr.heap.size wr w3) := hb3
            have HBx : Hid (∀ o, Below wr.heap.size wr (w3.alloc o)) := fun o => hb3.alloc hb3.size o
            have hsz3 : wr.heap.size ≤ w3.heap.size := hb3.size
            clear hb3 HW
            by_cases h256 : n = 256
            · obtain ⟨zz, rfl⟩ : ∃ zz : Int, e = .returned (.tuple #[.int .i64 zz, .agg #[.string q.1, .string q.2.1, .string q.2.2.1, .string q.2.2.2]]) := by
                cases hw : wrongQ ((x :: r).map fun s => s.data.toList) with
                | none => rw [hw] at hpost; exact ⟨_, hpost.1⟩
                | some kk => rw [hw] at hpost; exact ⟨_, hpost⟩
              have HE : Hid (∀ w', Below w1.heap.size w1 w' → ParsePost text w (.returned (.tuple #[.slice none 0 0, .int .i64 ((k : Int) + 0 + 1), .int .i64 30])) w') := HFull.out h256
              have hdn : decide ((256 : Int) ≤ (n : Int)) = true := by simp; omega
              clear hpost HFull HBad HGood
              simp only [Int.add_zero] at HE
              go_wp2
              go_ret3
              exact HE.out _ (HWW.out _ (HBx.out _))
            · have hlt256 : n < 256 := by omega
              have hdn : decide ((256 : Int) ≤ (n : Int)) = false := by simp; omega
              cases hw : wrongQ ((x :: r).map fun s => s.data.toList) with
              | some kk =>
                rw [hw] at hpost
                subst hpost
                have hk3 := wrongQ_le hw
                have HE : Hid (∀ w', Below w1.heap.size w1 w' → ParsePost text w (.returned (.tuple #[.slice none 0 0, .int .i64 ((k : Int) + (kk : Int) + 1), .int .i64 30])) w') := HBad.out hlt256 kk hw
                have hdk : decide ((0 : Int) ≤ (kk : Int)) = true := by simp
                clear HFull HBad HGood hw
                go_wp2
                go_ret3
                exact HE.out _ (HWW.out _ (HBx.out _))
              | none =>
                rw [hw] at hpost
                obtain ⟨rfl, hq⟩ := hpost
                obtain ⟨x1, x2, x3, hxr, hk4, hgo4⟩ := HGood.out hlt256 hw
                omega
          · subst hz
            subst hm
            have hdm : decide ((nl : Int) < (k : Int) + 4) = false := by simp; omega
            go_wp2_with fail
            refine HW.out.mono ?_
            rintro e w3 ⟨hb3, q, hpost⟩
            have HB3 : Hid (Below wr.heap.size wr w3) := hb3
            have HBx : Hid (∀ o, Below wr.heap.size wr (w3.alloc o)) := fun o => hb3.alloc hb3.size o
            have hsz3 : wr.heap.size ≤ w3.heap.size := hb3.size
            clear hb3 HW
            by_cases h256 : n = 256
            · obtain ⟨zz, rfl⟩ : ∃ zz : Int, e = .returned (.tuple #[.int .i64 zz, .agg #[.string q.1, .string q.2.1, .string q.2.2.1, .string q.2.2.2]]) := by
                cases hw : wrongQ ((x :: r).map fun s => s.data.toList) with
                | none => rw [hw] at hpost; exact ⟨_, hpost.1⟩
                | some kk => rw [hw] at hpost; exact ⟨_, hpost⟩
              have HE : Hid (∀ w', Below w1.heap.size w1 w' → ParsePost text w (.returned (.tuple #[.slice none 0 0, .int .i64 ((k : Int) + 0 + 1), .int .i64 30])) w') := HFull.out h256
              have hdn : decide ((256 : Int) ≤ (n : Int)) = true := by simp; omega
              clear hpost HFull HBad HGood
              simp only [Int.add_zero] at HE
              go_wp2
              go_ret3
              exact HE.out _ (HWW.out _ (HBx.out _))
            · have hlt256 : n < 256 := by omega
              have hdn : decide ((256 : Int) ≤ (n : Int)) = false := by simp; omega
              cases hw : wrongQ ((x :: r).map fun s => s.data.toList) with
              | some kk =>
                rw [hw] at hpost
                subst hpost
                have hk3 := wrongQ_le hw
                have HE : Hid (∀ w', Below w1.heap.size w1 w' → ParsePost text w (.returned (.tuple #[.slice none 0 0, .int .i64 ((k : Int) + (kk : Int) + 1), .int .i64 30])) w') := HBad.out hlt256 kk hw
                have hdk : decide ((0 : Int) ≤ (kk : Int)) = true := by simp
                clear HFull HBad HGood hw
                go_wp2
                go_ret3
                exact HE.out _ (HWW.out _ (HBx.out _))
              | none =>
                rw [hw] at hpost
                obtain ⟨rfl, hq⟩ := hpost
                obtain ⟨x1, x2, x3, hxr, hk4, hgo4⟩ := HGood.out hlt256 hw
                have HQ : Hid (q.P = readOf x.data.toList.tail x1.data.toList x3.data.toList) := hq _ _ _ _ hxr
                have HG4 : Hid (goQ (readOf x.data.toList.tail x1.data.toList x3.data.toList :: st) .p0 (k + 4) ((linesB text.data.toList).drop (k + 4)) = parseQ text.data.toList) := hgo4
                have HO : Hid (∀ o, (w3.alloc o).ownsRow w1.heap.size 29 4 (.slice ao n cap) n (rowCells qs)) := fun o => by
                  have := owned_below (owned_below HR.out.1 HB3.out) ((Below.refl _ _).alloc (Nat.le_refl _) o)
                  rw [HNQ.out] at this; exact this
                clear HFull HBad HGood hw hq hgo4 hxr
                obtain ⟨i0, hi, hz0, hz1, hz2⟩ := info_parts info29
                go_wp2_with (at_builtin; go_loud (refine wpList_append_own _ rfl _ _ 23 rfl w1.heap.size 29 i0 _ 4 64 Try.underlying23 hi hz0 hz1 hz2 rfl (by decide) _ _ _ rfl ((HO.out _).alloc _) ⟨_, 0, none⟩ 1 1 (rdCells q) rfl rfl (new_cells2 (w3.alloc _) q _ (by simp)) (rd_oneCell q) ?c3 ?c4 ?c5 ?_))
                case c3 => unfold maxLen; omega
                case c4 => omega
                case c5 => simp; omega
                intro v' w5 ho hg _
                have hB3 : w1.heap.size ≤ w3.heap.size := Nat.le_trans hBw hsz3
                have HR5 : Hid (RowIs w1.heap.size v' (qs ++ [q]) (readOf x.data.toList.tail x1.data.toList x3.data.toList :: st) w5) := by
                  refine ⟨?_, ?_⟩
                  · rw [rowCells_snoc, List.length_append, HNQ.out]; exact ho
                  · rw [List.map_append, HR.out.2, List.reverse_cons, ← HQ.out]; rfl
                have HB5 : Hid (Below w1.heap.size w1 w5) := by
                  have h1 := (HWW.out _ (HBx.out (.cells #[.string q.1, .string q.2.1, .string q.2.2.1, .string q.2.2.2] 29))).alloc (by simp; omega) (.cells #[.string q.1, .string q.2.1, .string q.2.2.1, .string q.2.2.2] 29)
                  exact h1.grown hg (by simp; omega) (fun g hgg => ((HO.out (.cells #[.string q.1, .string q.2.1, .string q.2.2.1, .string q.2.2.2] 29)).lt g hgg).1)
                have HL5 : Hid ((readOf x.data.toList.tail x1.data.toList x3.data.toList :: st).length ≤ 256) := by
                  show _ ≤ _
                  rw [List.length_cons, HNS.out]; omega
                clear ho hg HO HQ HR HBx HB3
                go_wp2
                go_roundw
                case rel => exact ⟨k + 4, _, _, by omega, by go_num, HR5.out, HB5.out, HL5.out, HG4.out⟩
                case measure => simp [intOf]; omega
      · have HGE : Hid (goQ st .p0 k [] = parseQ text.data.toList) := by
          have := HG.out
          rwa [List.drop_of_length_le (by rw [← HLS.out]; simp [HNL.out]; omega)] at this
        have HE : Hid (ParsePost text w (.returned (.tuple #[.slice ao n cap, .int .i64 0, .int .i64 0])) wr) := by
          refine parse_post (l := st.reverse) (k := 0) (n := 0) (qs := qs) (by rw [← HGE.out]; simp [goQ]) ?_ HR.out.2 (HB1.out.trans (HB.out.mono HB1.out.size)) rfl rfl
          exact owned_base HR.out.1 HB1.out.size
        have hkn : k = nl := by omega
        subst hkn
        clear HG HLO HLS HB1 HEach HB HGE HR HNS HNQ HNL
        go_wp2
        go_ret3
        exact HE.out
end Go.Proofs.Ytcpoiaclicmmmaa
