/-
  The document's Size and Find.
-/
import Derived.Test.YtnidinppglkcpaaKmN
import Derived.Test.YtnidinppglkcpaaKaP
import Derived.WalkMore
import Derived.Deep.LoopGhost
namespace Go.Proofs.Ytnidinppglkcpaa
open Go.RowKit Go.Maps

theorem ref_len {k : Int} {refs : List Wd} (h : refB k refs = 0) (j : Nat) : (refs.getD j []).length ≤ 65536 := by
  by_cases hj : j < refs.length
  · rw [List.getD, List.getElem?_eq_getElem hj]; exact (ref_ok h).2.2.2.1 _ (List.getElem_mem _)
  · rw [List.getD, List.getElem?_eq_none (by omega)]; simp
theorem occ_take_bd {kn : Nat} {refs : List Wd} (h : refB kn refs = 0) (j : Nat) : (occ kn 0 (refs.take j)).length ≤ 1048576 := by
  have hok := ref_ok h
  have h1 := occ_len_le kn (by omega) (refs.take j) 0
  have h2 : total (refs.take j) + total (refs.drop j) = total refs := by
    have := List.take_append_drop j refs
    rw [← congrArg total this]
    simp only [total, List.map_append, List.sum_append]
  omega
set_option maxHeartbeats 2000000 in
theorem rsize_calls {w : World} {y g : Nat} {kn : Nat} {refs : List Wd} (h : RxAt w y g kn refs) (h0 : refB kn refs = 0) :
    Calls Try.prog 14 #[.pointer (some ⟨y, 0, none⟩)] w fun e w' => e = .returned (.int .i64 ((occ kn 0 refs).length : Nat)) ∧ Below w.heap.size w w' := by
  have HX := hid h
  have H0 := hid h0
  obtain ⟨n, hn⟩ : ∃ n, refs.length = n := ⟨_, rfl⟩
  have HN := hid hn
  have hk16 : kn ≤ 16 := by have := ref_ok h0; omega
  have hn64 : n ≤ 64 := by have := ref_ok h0; omega
  clear h h0 hn
  go_enter Try.func14, Try.ntmps14
  go_wp2
  go_loopg [3, 4] n (fun g' a i wr => ∃ j : Nat, j + g' = n ∧ a = .int .i64 ((occ kn 0 (refs.take j)).length : Nat) ∧ i = .int .i64 j ∧ Below w.heap.size w wr)
  case atStart => exact ⟨0, Nat.zero_add _, by simp [occ], rfl, Below.refl _ _⟩
  case round =>
    obtain ⟨j, hj, rfl, rfl, hb⟩ := hrel
    have HB := hid hb
    have hx := HX.out.below hb
    have hc0 := hx.c0
    have hc1 := hx.c1
    rw [HN.out] at hc1
    have HW : Hid (WdsAt wr (some ⟨g, 0, none⟩) n refs) := by have := hx.wds; rw [HN.out] at this; exact this
    clear hx hb
    by_cases hlt : j < n
    · have hdlt : decide ((j : Int) < (n : Int)) = true := decide_eq_true (by omega)
      obtain ⟨b, off, hbo, hcs⟩ := HW.out.cells (by omega)
      cases hbo
      have hc2 := hcs j hlt
      clear hcs
      have HT := hid (occ_len_take kn refs j (by have := HN.out; omega))
      have hbd := occ_take_bd H0.out j
      have hsl := ref_len H0.out j
      generalize refs.getD j [] = s at *
      have hz : (bs s).size = s.length := bs_size _
      rw [Nat.zero_add] at hc2
      by_cases hge : kn ≤ s.length
      · have hdg : decide ((kn : Int) ≤ (s.length : Int)) = true := decide_eq_true (by omega)
        have hdgn : decide (kn ≤ s.length) = true := decide_eq_true (by omega)
        have HU : Hid (((occ kn 0 (refs.take (j + 1))).length : Int) = ((occ kn 0 (refs.take j)).length : Int) + (s.length : Int) - (kn : Int) + 1) := by have := HT.out; show _ = _; omega
        go_wp2
        go_region
        go_wp2
        go_region
        go_wp2
        go_roundg (gk - 1)
        case rel => exact ⟨j + 1, by omega, by rw [HU.out] <;> go_num, by go_num, HB.out.drew.drew⟩
        case measure => omega
      · have hdg : decide ((kn : Int) ≤ (s.length : Int)) = false := decide_eq_false (by omega)
        have hdgn : decide (kn ≤ s.length) = false := decide_eq_false (by omega)
        have HU : Hid ((occ kn 0 (refs.take (j + 1))).length = (occ kn 0 (refs.take j)).length) := by have := HT.out; show _ = _; omega
        go_wp2
        go_region
        go_wp2
        go_roundg (gk - 1)
        case rel => exact ⟨j + 1, by omega, by rw [HU.out], by go_num, HB.out.drew⟩
        case measure => omega
    · have hdlt : decide ((j : Int) < (n : Int)) = false := decide_eq_false (by omega)
      have HJ : Hid (refs.take j = refs) := by show _ = _; exact List.take_of_length_le (by have := HN.out; omega)
      rw [HJ.out]
      go_wp2
      go_ret
      exact ⟨rfl, HB.out⟩
/-- Places in a row of one's own. -/
def PvAt (w : World) (B : Nat) (v : Value) (l : List Pl) : Prop := w.ownsRow B 46 2 v l.length (plVals l)
theorem occ1_take_pls (kn i : Nat) (s wd : Wd) (t : Nat) (h : t + kn ≤ s.length) : plsOf ((occ1 kn i s).take (t + 1)) wd = if (oc1 kn i s t).1 = wd then plsOf ((occ1 kn i s).take t) wd ++ [((i : Int), (t : Int))] else plsOf ((occ1 kn i s).take t) wd := by
  rw [occ1_take kn i s t h, pls_snoc]
  rfl
set_option maxRecDepth 10000 in
set_option maxHeartbeats 4000000 in
theorem rfind_calls {w : World} {y g : Nat} {kn : Nat} {refs : List Wd} (h : RxAt w y g kn refs) (h0 : refB kn refs = 0) (wd : Wd) :
    Calls Try.prog 23 #[.pointer (some ⟨y, 0, none⟩), .string (bs wd)] w (FindPost kn (occ kn 0 refs) wd w) := by
  obtain ⟨i1, gi, gz0, gz1, gz2⟩ := info_parts info46
  have HIg : Hid (Try.prog.info? 46 = some i1 ∧ i1.zero = some (.agg #[.int .i64 0, .int .i64 0]) ∧ i1.size = 2 ∧ i1.bytes = 16) := ⟨gi, gz0, gz1, gz2⟩
  have HX := hid h
  have H0 := hid h0
  obtain ⟨n, hn⟩ : ∃ n, refs.length = n := ⟨_, rfl⟩
  have HN := hid hn
  have hk16 : kn ≤ 16 := by have := ref_ok h0; omega
  have hk1 : 1 ≤ kn := by have := ref_ok h0; omega
  have hn64 : n ≤ 64 := by have := ref_ok h0; omega
  have hzw := bs_size wd
  clear h h0 hn gi gz0 gz1 gz2
  unfold FindPost
  by_cases hk : (wd.length : Int) = (kn : Int)
  · have hb : ((wd.length : Int) != (kn : Int)) = false := by simpa using hk
    have hbn : (wd.length != kn) = false := by simp; omega
    rw [if_pos hk, if_pos hk]
    have hc0 := HX.out.c0
    clear hk
    go_enter Try.func23, Try.ntmps23
    go_wp2
    clear hc0
    go_loopg [6, 7] n (fun g' u i wr => ∃ j : Nat, j + g' = n ∧ i = .int .i64 j ∧ PvAt wr w.heap.size u (plsOf (occ kn 0 (refs.take j)) wd) ∧ Below w.heap.size w wr)
    case atStart => exact ⟨0, Nat.zero_add _, rfl, World.ownsRow_nil _ _ _ _, Below.refl _ _⟩
    case round =>
      obtain ⟨j, hj, rfl, hown, hb⟩ := hrel
      have HB := hid hb
      have HO := hid hown
      have hx := HX.out.below hb
      have hc1 := hx.c1
      rw [HN.out] at hc1
      have HW : Hid (WdsAt wr (some ⟨g, 0, none⟩) n refs) := by have := hx.wds; rw [HN.out] at this; exact this
      clear hx hb hown
      by_cases hlt : j < n
      · have hdlt : decide ((j : Int) < (n : Int)) = true := decide_eq_true (by omega)
        obtain ⟨b, off, hbo, hcs⟩ := HW.out.cells (by omega)
        cases hbo
        have hc2 := hcs j hlt
        clear hcs
        have HT := hid (occ_take kn refs j (by have := HN.out; omega))
        have hsl := ref_len H0.out j
        have hPl : (plsOf (occ kn 0 (refs.take j)) wd).length ≤ 1048576 := Nat.le_trans (pls_len _ _) (occ_take_bd H0.out j)
        generalize refs.getD j [] = s at *
        obtain ⟨P, hPe⟩ : ∃ P, plsOf (occ kn 0 (refs.take j)) wd = P := ⟨_, rfl⟩
        rw [hPe] at hPl HO
        have HPe := hid hPe
        clear hPe
        have hz : (bs s).size = s.length := bs_size _
        rw [Nat.zero_add] at hc2
        go_wp2
        clear hc2 hc1
        have HP : Hid (∀ t, (plsOf ((occ1 kn j s).take t) wd).length ≤ 65537) := fun t => by
          refine Nat.le_trans (pls_len _ _) ?_
          rw [List.length_take, occ1_len]; omega
        obtain ⟨gO, rfl⟩ : ∃ gO, gO = gk := ⟨_, rfl⟩
        go_loopg [6, 9] (s.length + 1 - kn) (fun g' u i wr2 => ∃ t : Nat, t + g' = s.length + 1 - kn ∧ i = .int .i64 t ∧ PvAt wr2 w.heap.size u (P ++ plsOf ((occ1 kn j s).take t) wd) ∧ Below w.heap.size w wr2)
        case atStart => exact ⟨0, Nat.zero_add _, rfl, by have := HO.out; simpa [plsOf] using this, HB.out⟩
        case round =>
          obtain ⟨t, ht, rfl, hown, hb⟩ := hrel
          have HB2 := hid hb
          have HO2 := hid hown
          have hc0 := (HX.out.below hb).c0
          have hPt := HP.out t
          clear hown hb
          by_cases hlt2 : t + kn ≤ s.length
          · have hd2 : decide ((t : Int) + (kn : Int) ≤ (s.length : Int)) = true := decide_eq_true (by omega)
            have hd2n : decide (t + kn ≤ s.length) = true := decide_eq_true hlt2
            have hsw := sl_word s t kn j hlt2
            have HS := hid (occ1_take_pls kn j s wd t hlt2)
            by_cases e : (oc1 kn j s t).1 = wd
            · have hE : ((bs (oc1 kn j s t).1).toList == (bs wd).toList) = true := by rw [e]; simp
              rw [e] at hE hsw
              have HS2 : Hid (plsOf ((occ1 kn j s).take (t + 1)) wd = plsOf ((occ1 kn j s).take t) wd ++ [((j : Int), (t : Int))]) := by have := HS.out; rw [if_pos e] at this; exact this
              clear e HS
              go_wp2_with (first
                | (refine wpList_append_opt rfl (.tmp 55) (.tmp 59) 42 rfl w.heap.size 46 i1 _ 2 16 Try.underlying42 HIg.out.1 HIg.out.2.1 HIg.out.2.2.1 HIg.out.2.2.2 rfl (by decide) _ _ _ rfl (owned_below HO2.out (below_new (.cells (plCells ((j : Int), (t : Int))).toArray 46))) (some ⟨wr.heap.size, 0, none⟩) 1 1 (plCells ((j : Int), (t : Int))) rfl (src_new (plCells ((j : Int), (t : Int))) 46 2 rfl (plc_one _)) (by rw [List.length_append]; unfold maxLen; omega) (by rw [List.length_append]; omega) (by have := HB2.out.size; simp; omega) ?_; intro u13 w13 ho hg; have HO13 := hid ho; have HB13 : Hid (Below w.heap.size w w13) := (HB2.out.alloc HB2.out.size _).grown hg (by have := HB2.out.size; simp; omega) (fun g hg1 => (own_lt HO2.out hg1).2); clear ho hg)
                | go_in)
              go_roundg (gk - 1)
              case rel =>
                refine ⟨t + 1, by omega, by go_num, ?_, HB13.out⟩
                rw [HS2.out, ← List.append_assoc]
                have := HO13.out
                rw [← plVals_snoc] at this
                show World.ownsRow _ _ _ _ _ (List.length _) _
                rw [List.length_append]
                exact this
              case measure => omega
            · have hE : ((bs (oc1 kn j s t).1).toList == (bs wd).toList) = false := by rw [bs_toList, bs_toList]; simpa using e
              have HS2 : Hid (plsOf ((occ1 kn j s).take (t + 1)) wd = plsOf ((occ1 kn j s).take t) wd) := by have := HS.out; rw [if_neg e] at this; exact this
              clear e HS
              go_wp2
              go_roundg (gk - 1)
              case rel => exact ⟨t + 1, by omega, by go_num, by rw [HS2.out]; exact HO2.out, HB2.out⟩
              case measure => omega
          · have hd2 : decide ((t : Int) + (kn : Int) ≤ (s.length : Int)) = false := decide_eq_false (by omega)
            have hd2n : decide (t + kn ≤ s.length) = false := decide_eq_false hlt2
            have HE : Hid ((occ1 kn j s).take t = occ1 kn j s) := by show _ = _; exact List.take_of_length_le (by rw [occ1_len]; omega)
            go_wp2
            go_roundg (gO - 1)
            case rel => exact ⟨j + 1, by omega, by go_num, by rw [HT.out, pls_append, HPe.out]; have := HO2.out; rw [HE.out] at this; exact this, HB2.out⟩
            case measure => omega
      · have hdlt : decide ((j : Int) < (n : Int)) = false := decide_eq_false (by omega)
        have HJ : Hid (refs.take j = refs) := by show _ = _; exact List.take_of_length_le (by have := HN.out; omega)
        go_wp2
        go_ret2
        refine ⟨_, rfl, ?_, HB.out⟩
        have := HO.out
        rw [HJ.out] at this
        exact this
  · have hb : ((wd.length : Int) != (kn : Int)) = true := by simpa using hk
    have hbn : (wd.length != kn) = true := by simp; omega
    rw [if_neg hk, if_neg hk]
    have hc0 := HX.out.c0
    clear hk
    go_enter Try.func23, Try.ntmps23
    go_wp2
    go_ret2
    exact ⟨_, rfl, World.ownsRow_nil _ _ _ _, Below.refl _ _⟩
end Go.Proofs.Ytnidinppglkcpaa
