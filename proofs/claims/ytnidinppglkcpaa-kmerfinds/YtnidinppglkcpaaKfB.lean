/-
  The document's Words: each word is put where it belongs.
-/
import Derived.Test.YtnidinppglkcpaaKfA
namespace Go.Proofs.Ytnidinppglkcpaa
open Go.RowKit Go.Maps

/-- How many stand ahead of a word. -/
def cutW (w : Wd) : List Wd → Nat
  | [] => 0
  | a :: r => if a < w then cutW w r + 1 else 0
theorem cut_le (w : Wd) : ∀ l, cutW w l ≤ l.length
  | [] => Nat.le_refl _
  | a :: r => by
    have := cut_le w r
    rw [cutW, List.length_cons]
    split <;> omega
theorem cut_lt (w : Wd) : ∀ (l : List Wd), Up l → ∀ (i : Nat) (x : Wd), l[i]? = some x → (x < w ↔ i < cutW w l)
  | [], _, i, x, h => by simp at h
  | a :: r, hu, i, x, h => by
    obtain ⟨h1, h2⟩ := List.pairwise_cons.1 hu
    rw [cutW]
    cases i with
    | zero =>
      simp at h
      subst h
      split
      · rename_i hl; exact ⟨fun _ => by omega, fun _ => hl⟩
      · rename_i hl; exact ⟨fun h => absurd h hl, fun h => by omega⟩
    | succ i =>
      have h' : r[i]? = some x := by simpa using h
      split
      · rw [cut_lt w r h2 i x h']; omega
      · rename_i hl
        have hax := h1 x (List.mem_of_getElem? h')
        refine ⟨fun hx => absurd (lt_tr hax hx) hl, fun h => by omega⟩
theorem ins_cut (w : Wd) : ∀ (l : List Wd), insW w l = if l[cutW w l]? = some w then l else l.take (cutW w l) ++ w :: l.drop (cutW w l)
  | [] => by simp [insW, cutW]
  | a :: r => by
    rw [insW, cutW]
    split
    · rename_i hl
      rw [ins_cut w r]
      simp only [List.getElem?_cons_succ, List.take_succ_cons, List.drop_succ_cons, List.cons_append]
      split <;> rfl
    · split
      · rename_i hl he; subst he; simp
      · rename_i hl he
        simp [he]
def shL (acc : List Wd) (k : Nat) (z : Wd) : List Wd := acc.take k ++ z :: acc.drop k
theorem sh_len (acc : List Wd) (k : Nat) (z : Wd) (h : k ≤ acc.length) : (shL acc k z).length = acc.length + 1 := by
  simp [shL]; omega
theorem sh_top (acc : List Wd) (z : Wd) : shL acc acc.length z = acc ++ [z] := by simp [shL]
theorem sh_at (acc : List Wd) (k : Nat) (z : Wd) (h : k ≤ acc.length) : (shL acc k z)[k]? = some z := by
  rw [shL, List.getElem?_append_right (by simp; omega)]
  have : k - (acc.take k).length = 0 := by simp; omega
  rw [this]; rfl
theorem sh_before (acc : List Wd) (k i : Nat) (z : Wd) (h : i < k) (hk : k ≤ acc.length) : (shL acc k z)[i]? = acc[i]? := by
  rw [shL, List.getElem?_append_left (by simp; omega), List.getElem?_take_of_lt h]
theorem sh_set (acc : List Wd) (k : Nat) (z u : Wd) (h : k ≤ acc.length) : (shL acc k z).set k u = shL acc k u := by
  have hl : (acc.take k).length = k := by simp; omega
  rw [shL, List.set_append_right _ _ (by omega), hl, Nat.sub_self]; rfl
theorem sh_step (acc : List Wd) (k : Nat) (x : Wd) (hx : acc[k]? = some x) : shL acc (k + 1) x = shL acc k x := by
  obtain ⟨hl, rfl⟩ := List.getElem?_eq_some_iff.1 hx
  rw [shL, shL, List.take_succ_eq_append_getElem hl, List.append_assoc]
  congr 1
  rw [List.drop_eq_getElem_cons hl]; rfl
theorem wdVals_set (l : List Wd) (k : Nat) (u : Wd) : (wdVals l).set k (.string (bs u)) = wdVals (l.set k u) := by
  simp [wdVals, List.map_set]
theorem wdVals_get {l : List Wd} {i : Nat} {x : Wd} (h : l[i]? = some x) : (wdVals l)[i]? = some (.string (bs x)) := by
  simp [wdVals, h]
/-- Texts in a row of one's own. -/
def WvAt (w : World) (B : Nat) (v : Value) (l : List Wd) : Prop := w.ownsRow B 9 1 v l.length (wdVals l)
theorem less_is (a b : Wd) : Op.bytesLess (bs a).toList (bs b).toList = decide (a < b) := by
  rw [bs_toList, bs_toList, Go.Proofs.bytesLess_eq]
theorem occ1_take_wds (L : List Oc) (kn i : Nat) (s : Wd) (t : Nat) (h : t + kn ≤ s.length) : wdsOf (L ++ (occ1 kn i s).take (t + 1)) = insW (oc1 kn i s t).1 (wdsOf (L ++ (occ1 kn i s).take t)) := by
  rw [occ1_take kn i s t h, ← List.append_assoc, wds_snoc]
set_option maxRecDepth 10000 in
set_option maxHeartbeats 8000000 in
theorem rwords_calls {w : World} {y g : Nat} {kn : Nat} {refs : List Wd} (h : RxAt w y g kn refs) (h0 : refB kn refs = 0) :
    Calls Try.prog 16 #[.pointer (some ⟨y, 0, none⟩)] w (WdPost (wdsOf (occ kn 0 refs)) w) := by
  obtain ⟨i1, gi, gz0, gz1, gz2⟩ := info_parts info9
  have HIg : Hid (Try.prog.info? 9 = some i1 ∧ i1.zero = some (.string ⟨#[]⟩) ∧ i1.size = 1 ∧ i1.bytes = 16) := ⟨gi, gz0, gz1, gz2⟩
  have HX := hid h
  have H0 := hid h0
  obtain ⟨n, hn⟩ : ∃ n, refs.length = n := ⟨_, rfl⟩
  have HN := hid hn
  have hk16 : kn ≤ 16 := by have := ref_ok h0; omega
  have hk1 : 1 ≤ kn := by have := ref_ok h0; omega
  have hn64 : n ≤ 64 := by have := ref_ok h0; omega
  clear h h0 hn gi gz0 gz1 gz2
  go_enter Try.func16, Try.ntmps16
  go_wp2
  go_loopg [3, 4] n (fun g' u i wr => ∃ j : Nat, j + g' = n ∧ i = .int .i64 j ∧ WvAt wr w.heap.size u (wdsOf (occ kn 0 (refs.take j))) ∧ Below w.heap.size w wr)
  case atStart => exact ⟨0, Nat.zero_add _, rfl, World.ownsRow_nil _ _ _ _, Below.refl _ _⟩
  case round =>
    obtain ⟨j, hj, rfl, hown, hb⟩ := hrel
    have HB := hid hb
    have HO := hid hown
    have hx := HX.out.below hb
    have hc1 := hx.c1
    rw [HN.out] at hc1
    have HW : Hid (WdsAt wr (some ⟨g, 0, none⟩) n refs) := by have := hx.wds; rw [HN.out] at this; exact this
    clear hx hb hown
    by_cases hlt : j < n
    · have hdlt : decide ((j : Int) < (n : Int)) = true := decide_eq_true (by omega)
      obtain ⟨b, off, hbo, hcs⟩ := HW.out.cells (by omega)
      cases hbo
      have hc2 := hcs j hlt
      clear hcs
      have HT := hid (occ_take kn refs j (by have := HN.out; omega))
      have hsl := ref_len H0.out j
      have HPl := hid (occ_take_bd H0.out j)
      generalize refs.getD j [] = s at *
      obtain ⟨L, hLe⟩ : ∃ L, occ kn 0 (refs.take j) = L := ⟨_, rfl⟩
      rw [hLe] at HPl HO HT
      have hz : (bs s).size = s.length := bs_size _
      rw [Nat.zero_add] at hc2
      clear hLe
      go_wp2
      clear hc2 hc1
      obtain ⟨gO, rfl⟩ : ∃ gO, gO = gk := ⟨_, rfl⟩
      go_loopg [3, 6] (s.length + 1 - kn) (fun g' u i wr2 => ∃ t : Nat, t + g' = s.length + 1 - kn ∧ i = .int .i64 t ∧ WvAt wr2 w.heap.size u (wdsOf (L ++ (occ1 kn j s).take t)) ∧ Below w.heap.size w wr2)
      case atStart => exact ⟨0, Nat.zero_add _, rfl, by have := HO.out; simpa using this, HB.out⟩
      case round =>
        obtain ⟨t, ht, rfl, hown, hb⟩ := hrel
        have HB2 := hid hb
        have HO2 := hid hown
        have hc0 := (HX.out.below hb).c0
        clear hown hb
        by_cases hlt2 : t + kn ≤ s.length
        · have hd2 : decide ((t : Int) + (kn : Int) ≤ (s.length : Int)) = true := decide_eq_true (by omega)
          have hd2n : decide (t + kn ≤ s.length) = true := decide_eq_true hlt2
          have hsw := sl_word s t kn j hlt2
          have HS := hid (occ1_take_wds L kn j s t hlt2)
          have HU := hid (wds_up (L ++ (occ1 kn j s).take t))
          have hLn : (wdsOf (L ++ (occ1 kn j s).take t)).length ≤ 1200000 := by
            refine Nat.le_trans (wds_len _) ?_
            rw [List.length_append, List.length_take, occ1_len]
            have := HPl.out; omega
          generalize wdsOf (L ++ (occ1 kn j s).take t) = acc at *
          generalize (oc1 kn j s t).1 = x at *
          have HIc := hid (ins_cut x acc)
          have HLt := hid (cut_lt x acc HU.out)
          have hcl := cut_le x acc
          generalize cutW x acc = cc at *
          obtain ⟨m, hm⟩ : ∃ m, acc.length = m := ⟨_, rfl⟩
          have HMm := hid hm
          rw [hm] at hLn hcl
          clear hm
          obtain ⟨va, vc, hv⟩ := owned_shape HO2.out
          rw [HMm.out] at hv
          subst hv
          have hLz : Hid (WvAt wr w.heap.size (.slice va m vc) acc) := HO2.out
          go_wp2
          clear hc0 hsw
          obtain ⟨gI, rfl⟩ : ∃ gI, gI = gk := ⟨_, rfl⟩
          go_loopg [8, 9] m (fun g' lo hi wr2 => ∃ a b : Nat, b - a = g' ∧ a ≤ cc ∧ cc ≤ b ∧ b ≤ m ∧ lo = .int .i64 a ∧ hi = .int .i64 b ∧ wr2 = wr)
          case atStart => exact ⟨0, m, by omega, by omega, hcl, Nat.le_refl _, rfl, rfl, rfl⟩
          case round =>
            obtain ⟨a, b, hab, hac, hcb, hbm, rfl, rfl, rfl⟩ := hrel
            by_cases hlo : a < b
            · have hda : decide ((a : Int) < (b : Int)) = true := decide_eq_true (by omega)
              have hdan : decide (a < b) = true := decide_eq_true hlo
              obtain ⟨gb, cap, hvs, _⟩ := owned_some hLz.out (by have := HMm.out; omega)
              have hva : va = some ⟨gb, 0, none⟩ := by injection hvs
              subst hva
              have hmid : (a + b) / 2 < m := by omega
              obtain ⟨z, hz2⟩ := get_len (l := acc) (j := (a + b) / 2) (by have := HMm.out; omega)
              have hcm : wr.cell? ⟨gb, (a + b) / 2, none⟩ = some (.string (bs z)) := by
                have h1 := hLz.out
                rw [WvAt, HMm.out] at h1
                exact (owned_cells h1 _ _ (wdVals_get hz2)).1
              have hiff := HLt.out _ _ hz2
              by_cases hzx : z < x
              · have hle : Op.bytesLess (bs z).toList (bs x).toList = true := by rw [less_is]; exact decide_eq_true hzx
                have HC := hid (hiff.1 hzx)
                clear hzx hiff hz2
                go_wp2
                have hC := HC.out
                go_roundg (b - ((a + b) / 2 + 1))
                case rel => exact ⟨(a + b) / 2 + 1, b, rfl, by omega, hcb, hbm, int_eq (by omega), rfl, rfl⟩
                case measure => omega
              · have hle : Op.bytesLess (bs z).toList (bs x).toList = false := by rw [less_is]; exact decide_eq_false hzx
                have HC := hid (fun h => hzx (hiff.2 h))
                clear hzx hiff hz2
                go_wp2
                have hC : ¬ ((a + b) / 2 < cc) := HC.out
                go_roundg ((a + b) / 2 - a)
                case rel => exact ⟨a, (a + b) / 2, rfl, hac, by omega, by omega, rfl, int_eq (by omega), rfl⟩
                case measure => omega
            · have hda : decide ((a : Int) < (b : Int)) = false := decide_eq_false (by omega)
              have hdan : decide (a < b) = false := decide_eq_false hlo
              obtain rfl : a = cc := by omega
              clear hac hcb
              have HLy := hid hLz.out
              by_cases hfo : acc[a]? = some x
              · have hIn : insW x acc = acc := by have := HIc.out; rw [if_pos hfo] at this; exact this
                have HIn := hid hIn
                have ham : a < m := by have := (List.getElem?_eq_some_iff.1 hfo).1; have := HMm.out; omega
                have hd7 : decide ((a : Int) < (m : Int)) = true := decide_eq_true (by omega)
                have hd7n : decide (a < m) = true := decide_eq_true ham
                obtain ⟨gb, cap, hvs, _⟩ := owned_some HLy.out (by have := HMm.out; omega)
                have hva : va = some ⟨gb, 0, none⟩ := by injection hvs
                subst hva
                have hcm : wr.cell? ⟨gb, a, none⟩ = some (.string (bs x)) := by
                  have h1 := HLy.out
                  rw [WvAt, HMm.out] at h1
                  exact (owned_cells h1 _ _ (wdVals_get hfo)).1
                have heq : ((bs x).toList == (bs x).toList) = true := by simp
                clear hfo hIn hvs
                go_wp2
                go_roundg (gI - 1)
                case rel => exact ⟨t + 1, by omega, by go_num, by rw [HS.out, HIn.out]; exact HLy.out, HB2.out⟩
                case measure => omega
              · have hIn : insW x acc = shL acc a x := by have := HIc.out; rw [if_neg hfo] at this; exact this
                have HIn := hid hIn
                have HLy : Hid (wr.ownsRow w.heap.size 9 1 (.slice va m vc) m (wdVals acc)) := by have h1 := HLy.out; rw [WvAt, HMm.out] at h1; exact h1
                by_cases ham : a < m
                · have hd7 : decide ((a : Int) < (m : Int)) = true := decide_eq_true (by omega)
                  have hd7n : decide (a < m) = true := decide_eq_true ham
                  obtain ⟨z, hz2⟩ := get_len (l := acc) (j := a) (by have := HMm.out; omega)
                  obtain ⟨gb, cap, hvs, _⟩ := owned_some HLy.out (by omega)
                  have hva : va = some ⟨gb, 0, none⟩ := by injection hvs
                  subst hva
                  have hcm : wr.cell? ⟨gb, a, none⟩ = some (.string (bs z)) := (owned_cells HLy.out _ _ (wdVals_get hz2)).1
                  have heq : ((bs z).toList == (bs x).toList) = false := by
                    rw [bs_toList, bs_toList]
                    simp only [beq_eq_false_iff_ne]
                    intro e
                    exact hfo (by rw [hz2, e])
                  clear hfo hIn hvs hz2
                  go_wp2_with (first
                    | (refine wpList_append_opt rfl (.tmp 78) (.tmp 80) 22 rfl w.heap.size 9 i1 _ 1 16 Try.underlying22 HIg.out.1 HIg.out.2.1 HIg.out.2.2.1 HIg.out.2.2.2 rfl (by decide) _ m (wdVals acc) rfl (owned_below HLy.out (below_new _)) (some ⟨wr.heap.size, 0, none⟩) 1 1 [.string (bs x)] rfl (src_new [.string (bs x)] 9 1 rfl (by simp [Value.oneCell'])) (by unfold maxLen; omega) (by omega) (by have := HB2.out.size; simp; omega) ?_; intro v5 w5 ho hg; have HB5 : Hid (Below w.heap.size w w5) := (HB2.out.alloc HB2.out.size _).grown hg (by have := HB2.out.size; simp; omega) (fun g hg1 => (own_lt HLy.out hg1).2); obtain ⟨gn, cn, rfl, hgn, _⟩ := owned_some ho (by omega); have HGn := hid hgn; have Hho := hid ho; clear ho hg hgn)
                    | go_in)
                  have HO5 : Hid (w5.ownsRow w.heap.size 9 1 (.slice (some ⟨gn, 0, none⟩) (m + 1) cn) (m + 1) (wdVals (shL acc m x))) := by
                    have ho := Hho.out
                    refine hid ?_
                    rw [← HMm.out] at ho ⊢
                    rw [sh_top]
                    simpa [wdVals] using ho
                  go_loopg [11] (m - a) (fun g' i wr2 => ∃ (kk : Nat) (z : Wd), kk - a = g' ∧ a ≤ kk ∧ kk ≤ m ∧ i = .int .i64 kk ∧ wr2.ownsRow w.heap.size 9 1 (.slice (some ⟨gn, 0, none⟩) (m + 1) cn) (m + 1) (wdVals (shL acc kk z)) ∧ Below w.heap.size w wr2)
                  case atStart => exact ⟨m, x, rfl, hcl, Nat.le_refl _, by go_num, HO5.out, HB5.out⟩
                  case round =>
                    obtain ⟨kk, z, hkk, hk1', hk2', rfl, hown, hb⟩ := hrel
                    have HO6 := hid hown
                    have HB6 := hid hb
                    clear hb
                    obtain ⟨hck, hfk⟩ := owned_cells hown kk _ (wdVals_get (sh_at acc kk z (by have := HMm.out; omega)))
                    clear hown
                    by_cases hgt : a < kk
                    · have hdk : decide ((a : Int) < (kk : Int)) = true := decide_eq_true (by omega)
                      have hdkn : decide (a < kk) = true := decide_eq_true hgt
                      obtain ⟨u, hu⟩ := get_len (l := acc) (j := kk - 1) (by have := HMm.out; omega)
                      have hcu := (owned_cells HO6.out (kk - 1) _ (wdVals_get ((sh_before acc kk (kk - 1) z (by omega) (by have := HMm.out; omega)).trans hu))).1
                      have HO7 : Hid ((wr.setCell ⟨gn, kk, none⟩ (.string (bs u))).ownsRow w.heap.size 9 1 (.slice (some ⟨gn, 0, none⟩) (m + 1) cn) (m + 1) (wdVals (shL acc (kk - 1) u)) ∧ Below w.heap.size w (wr.setCell ⟨gn, kk, none⟩ (.string (bs u)))) := by
                        refine ⟨?_, HB6.out.setCell (p := ⟨gn, kk, none⟩) HGn.out _⟩
                        have h1 := owned_set HO6.out kk (.string (bs u))
                        rw [wdVals_set, sh_set _ _ _ _ (by have := HMm.out; omega)] at h1
                        have h2 := sh_step acc (kk - 1) u hu
                        rw [show kk - 1 + 1 = kk by omega] at h2
                        rw [h2] at h1
                        exact h1
                      clear hu
                      go_wp2
                      go_roundg (gk - 1)
                      case rel => exact ⟨kk - 1, u, by omega, by omega, by omega, by go_num, HO7.out.1, HO7.out.2⟩
                      case measure => omega
                    · have hdk : decide ((a : Int) < (kk : Int)) = false := decide_eq_false (by omega)
                      have hdkn : decide (a < kk) = false := decide_eq_false hgt
                      obtain rfl : kk = a := by omega
                      have HO7 : Hid (WvAt (wr.setCell ⟨gn, kk, none⟩ (.string (bs x))) w.heap.size (.slice (some ⟨gn, 0, none⟩) (m + 1) cn) (shL acc kk x) ∧ Below w.heap.size w (wr.setCell ⟨gn, kk, none⟩ (.string (bs x)))) := by
                        refine ⟨?_, HB6.out.setCell (p := ⟨gn, kk, none⟩) HGn.out _⟩
                        have h1 := owned_set HO6.out kk (.string (bs x))
                        rw [wdVals_set, sh_set _ _ _ _ (by have := HMm.out; omega)] at h1
                        show World.ownsRow _ _ _ _ _ (List.length _) _
                        rw [sh_len _ _ _ (by have := HMm.out; omega), HMm.out]
                        exact h1
                      go_wp2
                      go_roundg (gI - 1)
                      case rel => exact ⟨t + 1, by omega, by go_num, by rw [HS.out, HIn.out]; exact HO7.out.1, HO7.out.2⟩
                      case measure => omega
                · have hd7 : decide ((a : Int) < (m : Int)) = false := decide_eq_false (by omega)
                  have hd7n : decide (a < m) = false := decide_eq_false ham
                  clear hfo hIn
                  go_wp2_with (first
                    | (refine wpList_append_opt rfl (.tmp 78) (.tmp 80) 22 rfl w.heap.size 9 i1 _ 1 16 Try.underlying22 HIg.out.1 HIg.out.2.1 HIg.out.2.2.1 HIg.out.2.2.2 rfl (by decide) _ m (wdVals acc) rfl (owned_below HLy.out (below_new _)) (some ⟨wr.heap.size, 0, none⟩) 1 1 [.string (bs x)] rfl (src_new [.string (bs x)] 9 1 rfl (by simp [Value.oneCell'])) (by unfold maxLen; omega) (by omega) (by have := HB2.out.size; simp; omega) ?_; intro v5 w5 ho hg; have HB5 : Hid (Below w.heap.size w w5) := (HB2.out.alloc HB2.out.size _).grown hg (by have := HB2.out.size; simp; omega) (fun g hg1 => (own_lt HLy.out hg1).2); obtain ⟨gn, cn, rfl, hgn, _⟩ := owned_some ho (by omega); have HGn := hid hgn; have Hho := hid ho; clear ho hg hgn)
                    | go_in)
                  have HO5 : Hid (w5.ownsRow w.heap.size 9 1 (.slice (some ⟨gn, 0, none⟩) (m + 1) cn) (m + 1) (wdVals (shL acc m x))) := by
                    have ho := Hho.out
                    refine hid ?_
                    rw [← HMm.out] at ho ⊢
                    rw [sh_top]
                    simpa [wdVals] using ho
                  go_loopg [11] (m - a) (fun g' i wr2 => ∃ (kk : Nat) (z : Wd), kk - a = g' ∧ a ≤ kk ∧ kk ≤ m ∧ i = .int .i64 kk ∧ wr2.ownsRow w.heap.size 9 1 (.slice (some ⟨gn, 0, none⟩) (m + 1) cn) (m + 1) (wdVals (shL acc kk z)) ∧ Below w.heap.size w wr2)
                  case atStart => exact ⟨m, x, rfl, hcl, Nat.le_refl _, by go_num, HO5.out, HB5.out⟩
                  case round =>
                    obtain ⟨kk, z, hkk, hk1', hk2', rfl, hown, hb⟩ := hrel
                    have HO6 := hid hown
                    have HB6 := hid hb
                    clear hb
                    obtain ⟨hck, hfk⟩ := owned_cells hown kk _ (wdVals_get (sh_at acc kk z (by have := HMm.out; omega)))
                    clear hown
                    by_cases hgt : a < kk
                    · exact absurd hgt (by omega)
                    · have hdk : decide ((a : Int) < (kk : Int)) = false := decide_eq_false (by omega)
                      have hdkn : decide (a < kk) = false := decide_eq_false hgt
                      obtain rfl : kk = a := by omega
                      have HO7 : Hid (WvAt (wr.setCell ⟨gn, kk, none⟩ (.string (bs x))) w.heap.size (.slice (some ⟨gn, 0, none⟩) (m + 1) cn) (shL acc kk x) ∧ Below w.heap.size w (wr.setCell ⟨gn, kk, none⟩ (.string (bs x)))) := by
                        refine ⟨?_, HB6.out.setCell (p := ⟨gn, kk, none⟩) HGn.out _⟩
                        have h1 := owned_set HO6.out kk (.string (bs x))
                        rw [wdVals_set, sh_set _ _ _ _ (by have := HMm.out; omega)] at h1
                        show World.ownsRow _ _ _ _ _ (List.length _) _
                        rw [sh_len _ _ _ (by have := HMm.out; omega), HMm.out]
                        exact h1
                      go_wp2
                      go_roundg (gI - 1)
                      case rel => exact ⟨t + 1, by omega, by go_num, by rw [HS.out, HIn.out]; exact HO7.out.1, HO7.out.2⟩
                      case measure => omega
        · have hd2 : decide ((t : Int) + (kn : Int) ≤ (s.length : Int)) = false := decide_eq_false (by omega)
          have hd2n : decide (t + kn ≤ s.length) = false := decide_eq_false hlt2
          have HE : Hid ((occ1 kn j s).take t = occ1 kn j s) := by show _ = _; exact List.take_of_length_le (by rw [occ1_len]; omega)
          go_wp2
          go_roundg (gO - 1)
          case rel => exact ⟨j + 1, by omega, by go_num, by rw [HT.out]; have := HO2.out; rw [HE.out] at this; exact this, HB2.out⟩
          case measure => omega
    · have hdlt : decide ((j : Int) < (n : Int)) = false := decide_eq_false (by omega)
      have HJ : Hid (refs.take j = refs) := by show _ = _; exact List.take_of_length_le (by have := HN.out; omega)
      go_wp2
      go_ret
      refine ⟨_, rfl, ?_, HB.out⟩
      have := HO.out
      rw [HJ.out] at this
      exact this

end Go.Proofs.Ytnidinppglkcpaa
