/-
  KmerAll: the words rise, each place has its word, and together they are all places.
-/
import Derived.Test.YtnidinppglkcpaaRows
import Derived.Test.YtnidinppglkcpaaChecked
import Derived.Test.YtnidinppglkcpaaKmO
import Derived.Test.YtnidinppglkcpaaKmS
import Derived.Test.YtnidinppglkcpaaKaP
import Derived.ProofKit
import Derived.ShutString
import Derived.ChangeOld
import Derived.OpenShut
import Derived.Deep.DeepHandedRow
namespace Go.Proofs.Ytnidinppglkcpaa
open Go.RowKit Go.Maps

theorem less_of {a b : Wd} (h : a < b) : Op.bytesLess (bs a).toList (bs b).toList = true := by
  rw [bs_toList, bs_toList, Go.Proofs.bytesLess_eq]
  exact decide_eq_true h
set_option maxRecDepth 20000 in
set_option maxHeartbeats 4000000 in
theorem all_walk (k : Int) (ao : Option Addr) (n c : Nat) (refs : List Wd) (w : World) (h : WdsIn w ao n c refs) :
    Calls Try.prog 4 #[.int .i64 k, .slice ao n c] w fun e w' => e = .returned (.bool true) ∧ Below w.heap.size w w' := by
  have hwg := weighs_calls refs ao n c w h.at' h.short
  have HI := hid h
  clear h
  go_enter Try.func4, Try.ntmps4
  go_wp2_with fail
  refine hwg.mono ?_
  rintro e w0 ⟨v, rfl, hv, rfl⟩
  by_cases hvb : 2147483647 < v
  · have dv : decide ((2147483647 : Int) < v) = true := decide_eq_true hvb
    go_wp2
    go_ret
    exact ⟨rfl, Below.refl _ _⟩
  have dv : decide ((2147483647 : Int) < v) = false := decide_eq_false hvb
  have HTt := hid (hv (by omega))
  clear hvb hv hwg
  obtain ⟨E, hE⟩ : ∃ E, refB k refs = E := ⟨_, rfl⟩
  have HE := hid hE
  clear hE
  have hN := fun W (hW : Below w0.heap.size w0 W) => new_calls k refs ao n c W (HI.out.at'.below hW) HI.out.short
  have hR := fun W (hW : Below w0.heap.size w0 W) => rnew_calls k refs ao n c W (HI.out.at'.below hW) HI.out.short HI.out.nil'
  by_cases z : E = 0
  · subst z
    go_wp2_with (first
      | (go_at_call 8; refine (awake_calls _).mono ?_; rintro e w1 ⟨rfl, hb⟩; have HB1 := hid hb; clear hb)
      | (go_at_call 9; refine (hN _ HB1.out).mono ?_; intro e w2 hp; obtain ⟨x, m, f, rfl, hx, hb⟩ := new_ok hp HE.out; have HX2 := hid hx; have HB2 := hid (below_two HB1.out hb); clear hp hx hb hN)
      | (go_at_call 10; refine (hR _ HB2.out).mono ?_; intro e w3 hp; obtain ⟨y, g, rfl, hx, hb⟩ := rnew_ok hp HE.out; have HX3 := hid (HX2.out.below hb); have HB3 := hid (below_two HB2.out hb); clear hp hx hb hR)
      | go_in)
    have hok := ref_ok HE.out
    obtain ⟨kn, hkn⟩ : ∃ kn : Nat, k = kn := ⟨k.toNat, by omega⟩
    subst hkn
    have HK : Hid (1 ≤ kn ∧ kn ≤ 16 ∧ n ≤ 64 ∧ (∀ s ∈ refs, s.length ≤ 65536) ∧ refs.length = n) := ⟨by omega, by omega, by have := HI.out.at'.length; omega, hok.2.2.2.1, HI.out.at'.length⟩
    have HO : Hid (∀ j, j ≤ n → (occ kn 0 (refs.take j)).length ≤ 1048576) := by
      intro j hj
      have h1 := occ_len_le kn HK.out.1 (refs.take j) 0
      have h2 : total (refs.take j) + total (refs.drop j) = total refs := by
        have := List.take_append_drop j refs
        rw [← congrArg total this]
        simp only [total, List.map_append, List.sum_append]
      omega
    clear HX2 HB1 HB2 hok
    go_loopg [11, 12] n (fun g a i wr => ∃ j : Nat, j + g = n ∧ a = .int .i64 ((occ kn 0 (refs.take j)).length : Nat) ∧ i = .int .i64 j ∧ wr = w3)
    case atStart => exact ⟨0, Nat.zero_add _, by simp [occ], rfl, rfl⟩
    case round =>
      obtain ⟨j, hj, rfl, rfl, rfl⟩ := hrel
      have hn64 := HK.out.2.2.1
      by_cases hlt : j < n
      · have hdlt : decide ((j : Int) < (n : Int)) = true := decide_eq_true (by omega)
        obtain ⟨b, off, rfl, hcs⟩ := (HI.out.at'.below HB3.out).cells (by omega)
        have hc1 := hcs j hlt
        clear hcs
        have HT := hid (occ_len_take kn refs j (by have := HK.out.2.2.2.2; omega))
        have hbd := HO.out j (by omega)
        have hbd2 := HO.out (j + 1) (by omega)
        have hsl : (refs.getD j []).length ≤ 65536 := HK.out.2.2.2.1 _ (by rw [List.getD, List.getElem?_eq_getElem (by have := HK.out.2.2.2.2; omega)]; exact List.getElem_mem _)
        have hk16 := HK.out.2.1
        generalize refs.getD j [] = s at *
        have hz : (bs s).size = s.length := bs_size _
        by_cases hge : kn ≤ s.length
        · have hdg : decide ((kn : Int) ≤ (s.length : Int)) = true := decide_eq_true (by omega)
          have HU : Hid (((occ kn 0 (refs.take (j + 1))).length : Int) = ((occ kn 0 (refs.take j)).length : Int) + (s.length : Int) - (kn : Int) + 1) := by have := HT.out; show _ = _; omega
          clear hbd2
          go_wp2
          go_roundg (gk - 1)
          case rel => exact ⟨j + 1, by omega, by rw [HU.out] <;> go_num, by go_num, rfl⟩
          case measure => omega
        · have hdg : decide ((kn : Int) ≤ (s.length : Int)) = false := decide_eq_false (by omega)
          have HU : Hid ((occ kn 0 (refs.take (j + 1))).length = (occ kn 0 (refs.take j)).length) := by have := HT.out; show _ = _; omega
          clear hbd2
          go_wp2
          go_roundg (gk - 1)
          case rel => exact ⟨j + 1, by omega, by rw [HU.out], by go_num, rfl⟩
          case measure => omega
      · have hdlt : decide ((j : Int) < (n : Int)) = false := decide_eq_false (by omega)
        have HJ : Hid (refs.take j = refs) := by show _ = _; exact List.take_of_length_le (by have := HK.out.2.2.2.2; omega)
        rw [HJ.out]
        have HL : Hid ((occ kn 0 refs).length ≤ 1048576) := occ_len_bd HE.out 0
        have h16 := occ_16 HE.out
        have HX4 : Hid (IxAt wr _ x m kn (occ kn 0 refs) f) := HX3.out
        have HQ : Hid (∀ wd ∈ wdsOf (occ kn 0 refs), wd.length = kn ∧ 0 < (plsOf (occ kn 0 refs) wd).length) := by
          intro wd hw
          have h1 := wd_len HE.out hw
          refine ⟨by omega, ?_⟩
          have h2 := pls_ne_nil.2 ((wds_mem _ _).1 hw)
          exact List.length_pos_iff.2 h2
        have HS := hid (sumP_all (wdsOf (occ kn 0 refs)) (wds_nodup _) (occ kn 0 refs) (fun o ho => (wds_mem _ _).2 ⟨o, ho, rfl⟩))
        have HUp := hid (wds_up (occ kn 0 refs))
        have HWl := hid (Nat.le_trans (wds_len (occ kn 0 refs)) HL.out)
        have HPl := hid (fun wd => pls_len (occ kn 0 refs) wd)
        have HPr := hid (fun wd => pls_rise kn refs wd)
        have HPa := hid (fun wd p (hp : p ∈ plsOf (occ kn 0 refs) wd) => pls_at hp)
        clear HX3 hdlt
        have h16' : ∀ o ∈ occ kn 0 refs, o.1.length ≤ 16 := h16
        clear h16
        generalize occ kn 0 refs = L at *
        generalize hW : wdsOf L = ws at *
        have HWs := hid hW
        clear hW
        go_wp2_with (first
          | (go_at_call 12; refine (size_calls HX4.out).mono ?_; rintro e w5 ⟨rfl, rfl⟩)
          | (go_at_call 17; refine (words_calls HX4.out HL.out h16').mono ?_; rw [HWs.out]; rintro e w6 ⟨v6, rfl, ho, hb⟩; have HX6 := hid (HX4.out.below hb); obtain ⟨wa, wc, rfl, hw⟩ := wds_row ho; have HW6 := hid hw; have HB6 := hid (below_two HB3.out hb); clear ho hw hb)
          | go_in)
        clear h16' HX4
        obtain ⟨m', hm'⟩ : ∃ m', ws.length = m' := ⟨_, rfl⟩
        rw [hm'] at HW6 HWl ⊢
        have HM := hid hm'
        have hwl := HWl.out
        have hLl := HL.out
        have hk16 := HK.out.2.1
        have hn64 := HK.out.2.2.1
        clear hm'
        go_loopg [11, 15] m' (fun g a i wr => ∃ j : Nat, j + g = m' ∧ a = .int .i64 ((L.length : Int) - (sumP L (ws.take j) : Int)) ∧ i = .int .i64 j ∧ Below w0.heap.size w0 wr ∧ Below w6.heap.size w6 wr)
        case atStart => exact ⟨0, Nat.zero_add _, by simp [sumP], rfl, HB6.out, Below.refl _ _⟩
        case round =>
          obtain ⟨j, hj, rfl, rfl, hb1, hb2⟩ := hrel
          have HBr := hid (And.intro hb1 hb2)
          clear hb1 hb2
          have hsp : sumP L (ws.take j) ≤ L.length := by rw [← HS.out]; exact sumP_le L ws j
          by_cases hlt : j < m'
          · have hdlt : decide ((j : Int) < (m' : Int)) = true := decide_eq_true (by omega)
            obtain ⟨b, off, rfl, hcs⟩ := (HW6.out.below HBr.out.2).cells (by omega)
            have hc1 := hcs j hlt
            have hin : ws.getD j [] ∈ ws := by rw [List.getD, List.getElem?_eq_getElem (by have := HM.out; omega)]; exact List.getElem_mem _
            have hwk := HQ.out _ hin
            have HT := hid (sumP_take L ws j (by have := HM.out; omega))
            have hsp2 : sumP L (ws.take (j + 1)) ≤ L.length := by rw [← HS.out]; exact sumP_le L ws (j + 1)
            have HSp := hid (And.intro hsp hsp2)
            have HG : Hid (ws[j]? = some (ws.getD j [])) := getD_get (by have := HM.out; omega)
            have HC := hid hcs
            clear hcs hin hsp2
            obtain ⟨wd, hwd⟩ : ∃ wd, wd = ws.getD j [] := ⟨_, rfl⟩
            rw [← hwd] at hc1 hwk HT HG
            have HWd := hid hwd
            clear hwd
            have hzw : (bs wd).size = kn := by rw [bs_size]; exact hwk.1
            have HWk := hid hwk
            obtain ⟨q, hq⟩ : ∃ q, (plsOf L wd).length = q := ⟨_, rfl⟩
            have HQq := hid hq
            have hq0 : 0 < q := by have := hwk.2; omega
            have hqL : q ≤ 1048576 := by have := HPl.out wd; omega
            have hd0 : ((q : Int) == 0) = false := by simp; omega
            have hf := find_ok (HX6.out.below HBr.out.2.drew) wd (by have := hwk.1; omega) (by omega) (by omega)
            clear hq hwk
            have HP24 : Hid (j = 0 ∨ 0 < j ∧ ∃ u, wr.cell? ⟨b, off + (j - 1), none⟩ = some (.string (bs u)) ∧ Op.bytesLess (bs u).toList (bs wd).toList = true) := by
              rcases Nat.eq_zero_or_pos j with h0 | h0
              · exact .inl h0
              · refine .inr ⟨h0, _, HC.out (j - 1) (by omega), less_of ?_⟩
                exact pw_get HUp.out (i := j - 1) (j := j) (by omega) (getD_get (by have := HM.out; omega)) HG.out
            have hfin : ∀ w7 : World, True := fun _ => trivial
            clear hfin
            go_upto_region 24 with (fail)
            go_cut [103] from 230 (fun v wc => v = .bool false ∧ wc = wr.drew)
            case first =>
              rename_i hJ hK
              have HJ := hid hJ
              have HKk := hid hK
              rcases HP24.out with h0 | ⟨h0, u, hcu, hless⟩
              · have f0 : decide ((0 : Int) < (j : Int)) = false := decide_eq_false (by omega)
                have f0n : decide (0 < j) = false := decide_eq_false (by omega)
                clear h0
                go_region
                refine HKk.out _ _ (Met.intro (HJ.out _ _ ?_))
                repeat apply Exists.intro
                exact ⟨⟨rfl, rfl⟩, rfl⟩
              · have f0 : decide ((0 : Int) < (j : Int)) = true := decide_eq_true (by omega)
                have f0n : decide (0 < j) = true := decide_eq_true (by omega)
                go_region
                refine HKk.out _ _ (Met.intro (HJ.out _ _ ?_))
                repeat apply Exists.intro
                exact ⟨⟨rfl, rfl⟩, rfl⟩
            case rest =>
              obtain ⟨rfl, rfl⟩ := hcut
              go_wp2_with (first
                | (go_at_call 18; refine hf.mono ?_; rintro e w7 ⟨v7, rfl, ho, hb⟩; obtain ⟨pa, pc, rfl, hp7⟩ := pls_row ho HQq.out; have HP7 := hid hp7; have HB7 := hid (And.intro (below_two HBr.out.1.drew hb) (below_two HBr.out.2.drew hb)); have hc7 : w7.cell? ⟨b, off + j, none⟩ = some (.string (bs wd)) := (hb.cell (World.block_lt_of_cell? wr _ hc1)).trans hc1; clear ho hb hp7 hf)
                | go_in)
              clear hc1 hc7
              obtain ⟨gO, rfl⟩ : ∃ gO, gO = gk := ⟨_, rfl⟩
              go_loopg [18] q (fun g i wr2 => ∃ t : Nat, t + g = q ∧ i = .int .i64 t ∧ Below w0.heap.size w0 wr2 ∧ Below w7.heap.size w7 wr2)
              case atStart => exact ⟨0, Nat.zero_add _, rfl, HB7.out.1, Below.refl _ _⟩
              case round =>
                obtain ⟨t, ht, rfl, hb1, hb2⟩ := hrel
                have HB9 := hid (And.intro hb1 hb2)
                have HB67 := hid (below_two HB7.out.2 hb2)
                clear hb1 hb2
                by_cases hlq : t < q
                · have hdq : decide ((t : Int) < (q : Int)) = true := decide_eq_true (by omega)
                  obtain ⟨pb, po, rfl, hcp⟩ := (HP7.out.below HB9.out.2).cells (by omega)
                  obtain ⟨o, ho⟩ := get_len (l := plsOf L wd) (j := t) (by have := HQq.out; omega)
                  obtain ⟨r, a, hra, hrn, hak, hwa⟩ := HPa.out wd o (List.mem_of_getElem? ho)
                  subst hra
                  obtain ⟨x1, x2⟩ := hcp t _ ho
                  simp only at x1 x2
                  have H35 : Hid (t = 0 ∨ 0 < t ∧ ∃ o1 o2 : Int, wr.cell? ⟨pb, po + (t - 1) * 2, none⟩ = some (.int .i64 o1) ∧ wr.cell? ⟨pb, po + (t - 1) * 2 + 1, none⟩ = some (.int .i64 o2) ∧ (o1 < (r : Int) ∨ o1 = (r : Int) ∧ o2 < (a : Int))) := by
                    rcases Nat.eq_zero_or_pos t with h0 | h0
                    · exact .inl h0
                    · obtain ⟨o', ho'⟩ := get_len (l := plsOf L wd) (j := t - 1) (by have := HQq.out; omega)
                      obtain ⟨y1, y2⟩ := hcp _ _ ho'
                      exact .inr ⟨h0, o'.1, o'.2, y1, y2, pw_get (HPr.out wd) (i := t - 1) (j := t) (by omega) ho' ho⟩
                  obtain ⟨rb, ro, hro, hcr⟩ := (HI.out.at'.below HB9.out.1).cells (by have := HK.out.2.2.2.2; omega)
                  have hcs := hcr r (by have := HK.out.2.2.2.2; omega)
                  have hcw : wr.cell? ⟨b, off + j, none⟩ = some (.string (bs wd)) := by
                    obtain ⟨b', off', e', hcs'⟩ := (HW6.out.below HB67.out).cells (by omega)
                    cases e'
                    rw [HWd.out]
                    exact hcs' j hlt
                  have hs65 : (refs.getD r []).length ≤ 65536 := HK.out.2.2.2.1 _ (by rw [List.getD, List.getElem?_eq_getElem hrn]; exact List.getElem_mem _)
                  have hsl := sl_word (refs.getD r []) a kn r hak
                  have hws : (oc1 kn r (refs.getD r []) a).1 = wd := hwa.symm
                  rw [hws] at hsl
                  have hrn' : r < n := by have := HK.out.2.2.2.2; omega
                  clear hcr ho hcp hwa hws hrn
                  generalize refs.getD r [] = s at *
                  have hzs : (bs s).size = s.length := bs_size _
                  subst hro
                  have HX := hid (And.intro x1 (And.intro x2 (And.intro hcs hcw)))
                  have HHs := hid hzs
                  have HSL := hid hsl
                  clear hcs hcw hzs hsl
                  go_upto_region 33 with (fail)
                  have c1 : (wr.alloc (.cells #[.int .i64 (r : Int), .int .i64 (a : Int)] 46)).cell? ⟨wr.heap.size, 0, none⟩ = some (.int .i64 (r : Int)) := cell_block (heap_alloc_new wr _) 0 _ rfl
                  have c2 : (wr.alloc (.cells #[.int .i64 (r : Int), .int .i64 (a : Int)] 46)).cell? ⟨wr.heap.size, 1, none⟩ = some (.int .i64 (a : Int)) := cell_block (heap_alloc_new wr _) 1 _ rfl
                  have c3 : (wr.alloc (.cells #[.int .i64 (r : Int), .int .i64 (a : Int)] 46)).cell? ⟨rb, ro + r, none⟩ = some (.string (bs s)) := cell_al HX.out.2.2.1 _
                  have c4 : (wr.alloc (.cells #[.int .i64 (r : Int), .int .i64 (a : Int)] 46)).cell? ⟨b, off + j, none⟩ = some (.string (bs wd)) := cell_al HX.out.2.2.2 _
                  have H36 : Hid (t = 0 ∨ 0 < t ∧ ∃ o1 o2 : Int, (wr.alloc (.cells #[.int .i64 (r : Int), .int .i64 (a : Int)] 46)).cell? ⟨pb, po + (t - 1) * 2, none⟩ = some (.int .i64 o1) ∧ (wr.alloc (.cells #[.int .i64 (r : Int), .int .i64 (a : Int)] 46)).cell? ⟨pb, po + (t - 1) * 2 + 1, none⟩ = some (.int .i64 o2) ∧ (o1 < (r : Int) ∨ o1 = (r : Int) ∧ o2 < (a : Int))) := by
                    rcases H35.out with h0 | ⟨h0, o1, o2, y1, y2, h1⟩
                    · exact .inl h0
                    · exact .inr ⟨h0, o1, o2, cell_al y1 _, cell_al y2 _, h1⟩
                  have HBz : Hid (Below w0.heap.size w0 (wr.alloc (.cells #[.int .i64 (r : Int), .int .i64 (a : Int)] 46)) ∧ Below w7.heap.size w7 (wr.alloc (.cells #[.int .i64 (r : Int), .int .i64 (a : Int)] 46))) := ⟨HB9.out.1.alloc HB9.out.1.size _, HB9.out.2.alloc HB9.out.2.size _⟩
                  have hzs := HHs.out
                  have hsl := HSL.out
                  have e1 : decide ((r : Int) < 0) = false := decide_eq_false (by omega)
                  have e2 : decide ((n : Int) ≤ (r : Int)) = false := decide_eq_false (by omega)
                  have e3 : decide ((a : Int) < 0) = false := decide_eq_false (by omega)
                  have e4 : decide ((s.length : Int) < (a : Int) + (kn : Int)) = false := decide_eq_false (by omega)
                  have e2n : decide (n ≤ r) = false := decide_eq_false (by omega)
                  have e4n : decide (s.length < a + kn) = false := decide_eq_false (by omega)
                  have e5 : ((bs wd).toList == (bs wd).toList) = true := by simp
                  clear x1 x2
                  generalize (wr.alloc (.cells #[.int .i64 (r : Int), .int .i64 (a : Int)] 46)) = wz at *
                  go_cut [185] from 230 (fun v wc => v = .bool false ∧ wc = wz.drew)
                  case first =>
                    rename_i hJ hK
                    have HJ := hid hJ
                    have HKk := hid hK
                    have hwrap : IntKind.i64.wrap ((a : Int) + (kn : Int)) = (a : Int) + (kn : Int) := by rw [IntKind.wrap_i64]; omega
                    have HS : Hid (wz.drew.cell? ⟨wr.heap.size, 0, none⟩ = some (.int .i64 (r : Int)) ∧ wz.drew.cell? ⟨wr.heap.size, 1, none⟩ = some (.int .i64 (a : Int)) ∧ wz.drew.cell? ⟨rb, ro + r, none⟩ = some (.string (bs s)) ∧ wz.drew.cell? ⟨b, off + j, none⟩ = some (.string (bs wd))) := ⟨c1, c2, c3, c4⟩
                    clear c1 c2 c3 c4
                    refine wp_region_Y (fun j => [].contains j) (fun W : World => W.cell? ⟨wr.heap.size, 0, none⟩ = some (.int .i64 (r : Int)) ∧ W.cell? ⟨wr.heap.size, 1, none⟩ = some (.int .i64 (a : Int)) ∧ W.cell? ⟨rb, ro + r, none⟩ = some (.string (bs s)) ∧ W.cell? ⟨b, off + j, none⟩ = some (.string (bs wd))) (by kernel_rfl) ?_
                    refine wpAnyY_pure (i := 0) 139 (v := .pointer (some ⟨wr.heap.size, 0, none⟩)) rfl rfl (by kernel_rfl) (by kernel_rfl) (by kernel_rfl) (fun _ _ _ h => h) (Or.inl ⟨by rfl, by (intro W _; go_simp)⟩) ?_
                    simp only [Act.put, List.setIfInBounds_toArray, List.set_cons_succ, List.set_cons_zero]
                    refine wpAnyY_takeD (i := 1) 140 (v := .int .i64 (r : Int)) rfl rfl (by kernel_rfl) (by kernel_rfl) (late_of (by kernel_rfl)) (by kernel_rfl) (by kernel_rfl) (fun _ _ _ h => h) HS.out (Or.inl ⟨by rfl, by (intro W hW; obtain ⟨e1c, e2c, e3c, e4c⟩ := hW; go_simp)⟩) ?_
                    simp only [Act.put, List.setIfInBounds_toArray, List.set_cons_succ, List.set_cons_zero]
                    refine wpAnyY_pure (i := 2) 141 (v := .bool false) rfl rfl (by kernel_rfl) (by kernel_rfl) (by kernel_rfl) (fun _ _ _ h => h) (Or.inl ⟨by rfl, by (intro W _; go_simp)⟩) ?_
                    simp only [Act.put, List.setIfInBounds_toArray, List.set_cons_succ, List.set_cons_zero]
                    refine wpAnyY_pure (i := 3) 142 (v := .bool false) rfl rfl (by kernel_rfl) (by kernel_rfl) (by kernel_rfl) (fun _ _ _ h => h) (Or.inl ⟨by rfl, by (intro W _; go_simp)⟩) ?_
                    simp only [Act.put, List.setIfInBounds_toArray, List.set_cons_succ, List.set_cons_zero]
                    refine wpAnyY_pure (i := 4) 143 (v := .pointer (some ⟨wr.heap.size, 0, none⟩)) rfl rfl (by kernel_rfl) (by kernel_rfl) (by kernel_rfl) (fun _ _ _ h => h) (Or.inl ⟨by rfl, by (intro W _; go_simp)⟩) ?_
                    simp only [Act.put, List.setIfInBounds_toArray, List.set_cons_succ, List.set_cons_zero]
                    refine wpAnyY_takeD (i := 5) 144 (v := .int .i64 (r : Int)) rfl rfl (by kernel_rfl) (by kernel_rfl) (late_of (by kernel_rfl)) (by kernel_rfl) (by kernel_rfl) (fun _ _ _ h => h) HS.out (Or.inl ⟨by rfl, by (intro W hW; obtain ⟨e1c, e2c, e3c, e4c⟩ := hW; go_simp)⟩) ?_
                    simp only [Act.put, List.setIfInBounds_toArray, List.set_cons_succ, List.set_cons_zero]
                    refine wpAnyY_pure (i := 6) 145 (v := .slice (some ⟨rb, ro, none⟩) n c) rfl rfl (by kernel_rfl) (by kernel_rfl) (by kernel_rfl) (fun _ _ _ h => h) (Or.inl ⟨by rfl, by (intro W _; go_simp)⟩) ?_
                    simp only [Act.put, List.setIfInBounds_toArray, List.set_cons_succ, List.set_cons_zero]
                    refine wpAnyY_pure (i := 7) 146 (v := .int .i64 (n : Int)) rfl rfl (by kernel_rfl) (by kernel_rfl) (by kernel_rfl) (fun _ _ _ h => h) (Or.inl ⟨by rfl, by (intro W _; go_simp)⟩) ?_
                    simp only [Act.put, List.setIfInBounds_toArray, List.set_cons_succ, List.set_cons_zero]
                    refine wpAnyY_pure (i := 8) 147 (v := .bool false) rfl rfl (by kernel_rfl) (by kernel_rfl) (by kernel_rfl) (fun _ _ _ h => h) (Or.inl ⟨by rfl, by (intro W _; go_simp)⟩) ?_
                    simp only [Act.put, List.setIfInBounds_toArray, List.set_cons_succ, List.set_cons_zero]
                    refine wpAnyY_pure (i := 9) 148 (v := .bool false) rfl rfl (by kernel_rfl) (by kernel_rfl) (by kernel_rfl) (fun _ _ _ h => h) (Or.inl ⟨by rfl, by (intro W _; go_simp)⟩) ?_
                    simp only [Act.put, List.setIfInBounds_toArray, List.set_cons_succ, List.set_cons_zero]
                    refine wpAnyY_pure (i := 10) 149 (v := .bool false) rfl rfl (by kernel_rfl) (by kernel_rfl) (by kernel_rfl) (fun _ _ _ h => h) (Or.inl ⟨by rfl, by (intro W _; go_simp)⟩) ?_
                    simp only [Act.put, List.setIfInBounds_toArray, List.set_cons_succ, List.set_cons_zero]
                    refine wpAnyY_pure (i := 11) 150 (v := .pointer (some ⟨wr.heap.size, 1, none⟩)) rfl rfl (by kernel_rfl) (by kernel_rfl) (by kernel_rfl) (fun _ _ _ h => h) (Or.inl ⟨by rfl, by (intro W _; go_simp)⟩) ?_
                    simp only [Act.put, List.setIfInBounds_toArray, List.set_cons_succ, List.set_cons_zero]
                    refine wpAnyY_takeD (i := 12) 151 (v := .int .i64 (a : Int)) rfl rfl (by kernel_rfl) (by kernel_rfl) (late_of (by kernel_rfl)) (by kernel_rfl) (by kernel_rfl) (fun _ _ _ h => h) HS.out (Or.inl ⟨by rfl, by (intro W hW; obtain ⟨e1c, e2c, e3c, e4c⟩ := hW; go_simp)⟩) ?_
                    simp only [Act.put, List.setIfInBounds_toArray, List.set_cons_succ, List.set_cons_zero]
                    refine wpAnyY_pure (i := 13) 152 (v := .bool false) rfl rfl (by kernel_rfl) (by kernel_rfl) (by kernel_rfl) (fun _ _ _ h => h) (Or.inl ⟨by rfl, by (intro W _; go_simp)⟩) ?_
                    simp only [Act.put, List.setIfInBounds_toArray, List.set_cons_succ, List.set_cons_zero]
                    refine wpAnyY_pure (i := 14) 153 (v := .bool false) rfl rfl (by kernel_rfl) (by kernel_rfl) (by kernel_rfl) (fun _ _ _ h => h) (Or.inl ⟨by rfl, by (intro W _; go_simp)⟩) ?_
                    simp only [Act.put, List.setIfInBounds_toArray, List.set_cons_succ, List.set_cons_zero]
                    refine wpAnyY_pure (i := 15) 154 (v := .bool false) rfl rfl (by kernel_rfl) (by kernel_rfl) (by kernel_rfl) (fun _ _ _ h => h) (Or.inl ⟨by rfl, by (intro W _; go_simp)⟩) ?_
                    simp only [Act.put, List.setIfInBounds_toArray, List.set_cons_succ, List.set_cons_zero]
                    refine wpAnyY_pure (i := 16) 155 (v := .pointer (some ⟨wr.heap.size, 1, none⟩)) rfl rfl (by kernel_rfl) (by kernel_rfl) (by kernel_rfl) (fun _ _ _ h => h) (Or.inl ⟨by rfl, by (intro W _; go_simp)⟩) ?_
                    simp only [Act.put, List.setIfInBounds_toArray, List.set_cons_succ, List.set_cons_zero]
                    refine wpAnyY_takeD (i := 17) 156 (v := .int .i64 (a : Int)) rfl rfl (by kernel_rfl) (by kernel_rfl) (late_of (by kernel_rfl)) (by kernel_rfl) (by kernel_rfl) (fun _ _ _ h => h) HS.out (Or.inl ⟨by rfl, by (intro W hW; obtain ⟨e1c, e2c, e3c, e4c⟩ := hW; go_simp)⟩) ?_
                    simp only [Act.put, List.setIfInBounds_toArray, List.set_cons_succ, List.set_cons_zero]
                    refine wpAnyY_pure (i := 18) 157 (v := .int .i64 (kn : Int)) rfl rfl (by kernel_rfl) (by kernel_rfl) (by kernel_rfl) (fun _ _ _ h => h) (Or.inl ⟨by rfl, by (intro W _; go_simp)⟩) ?_
                    simp only [Act.put, List.setIfInBounds_toArray, List.set_cons_succ, List.set_cons_zero]
                    refine wpAnyY_pure (i := 19) 158 (v := .int .i64 ((a : Int) + (kn : Int))) rfl rfl (by kernel_rfl) (by kernel_rfl) (by kernel_rfl) (fun _ _ _ h => h) (Or.inl ⟨by rfl, by (intro W _; go_simp)⟩) ?_
                    simp only [Act.put, List.setIfInBounds_toArray, List.set_cons_succ, List.set_cons_zero]
                    refine wpAnyY_pure (i := 20) 159 (v := .slice (some ⟨rb, ro, none⟩) n c) rfl rfl (by kernel_rfl) (by kernel_rfl) (by kernel_rfl) (fun _ _ _ h => h) (Or.inl ⟨by rfl, by (intro W _; go_simp)⟩) ?_
                    simp only [Act.put, List.setIfInBounds_toArray, List.set_cons_succ, List.set_cons_zero]
                    refine wpAnyY_pure (i := 21) 160 (v := .pointer (some ⟨wr.heap.size, 0, none⟩)) rfl rfl (by kernel_rfl) (by kernel_rfl) (by kernel_rfl) (fun _ _ _ h => h) (Or.inl ⟨by rfl, by (intro W _; go_simp)⟩) ?_
                    simp only [Act.put, List.setIfInBounds_toArray, List.set_cons_succ, List.set_cons_zero]
                    refine wpAnyY_takeD (i := 22) 161 (v := .int .i64 (r : Int)) rfl rfl (by kernel_rfl) (by kernel_rfl) (late_of (by kernel_rfl)) (by kernel_rfl) (by kernel_rfl) (fun _ _ _ h => h) HS.out (Or.inl ⟨by rfl, by (intro W hW; obtain ⟨e1c, e2c, e3c, e4c⟩ := hW; go_simp)⟩) ?_
                    simp only [Act.put, List.setIfInBounds_toArray, List.set_cons_succ, List.set_cons_zero]
                    refine wpAnyY_pure (i := 23) 162 (v := .pointer (some ⟨rb, ro + r, none⟩)) rfl rfl (by kernel_rfl) (by kernel_rfl) (by kernel_rfl) (fun _ _ _ h => h) (Or.inl ⟨by rfl, by (intro W _; go_simp)⟩) ?_
                    simp only [Act.put, List.setIfInBounds_toArray, List.set_cons_succ, List.set_cons_zero]
                    refine wpAnyY_takeD (i := 24) 163 (v := .string (bs s)) rfl rfl (by kernel_rfl) (by kernel_rfl) (late_of (by kernel_rfl)) (by kernel_rfl) (by kernel_rfl) (fun _ _ _ h => h) HS.out (Or.inl ⟨by rfl, by (intro W hW; obtain ⟨e1c, e2c, e3c, e4c⟩ := hW; go_simp)⟩) ?_
                    simp only [Act.put, List.setIfInBounds_toArray, List.set_cons_succ, List.set_cons_zero]
                    refine wpAnyY_pure (i := 25) 164 (v := .int .i64 (s.length : Int)) rfl rfl (by kernel_rfl) (by kernel_rfl) (by kernel_rfl) (fun _ _ _ h => h) (Or.inl ⟨by rfl, by (intro W _; go_simp)⟩) ?_
                    simp only [Act.put, List.setIfInBounds_toArray, List.set_cons_succ, List.set_cons_zero]
                    refine wpAnyY_pure (i := 26) 165 (v := .bool false) rfl rfl (by kernel_rfl) (by kernel_rfl) (by kernel_rfl) (fun _ _ _ h => h) (Or.inl ⟨by rfl, by (intro W _; go_simp)⟩) ?_
                    simp only [Act.put, List.setIfInBounds_toArray, List.set_cons_succ, List.set_cons_zero]
                    refine wpAnyY_pure (i := 27) 166 (v := .bool false) rfl rfl (by kernel_rfl) (by kernel_rfl) (by kernel_rfl) (fun _ _ _ h => h) (Or.inl ⟨by rfl, by (intro W _; go_simp)⟩) ?_
                    simp only [Act.put, List.setIfInBounds_toArray, List.set_cons_succ, List.set_cons_zero]
                    refine wpAnyY_pure (i := 28) 167 (v := .bool false) rfl rfl (by kernel_rfl) (by kernel_rfl) (by kernel_rfl) (fun _ _ _ h => h) (Or.inl ⟨by rfl, by (intro W _; go_simp)⟩) ?_
                    simp only [Act.put, List.setIfInBounds_toArray, List.set_cons_succ, List.set_cons_zero]
                    refine wpAnyY_pure (i := 29) 168 (v := .slice (some ⟨rb, ro, none⟩) n c) rfl rfl (by kernel_rfl) (by kernel_rfl) (by kernel_rfl) (fun _ _ _ h => h) (Or.inl ⟨by rfl, by (intro W _; go_simp)⟩) ?_
                    simp only [Act.put, List.setIfInBounds_toArray, List.set_cons_succ, List.set_cons_zero]
                    refine wpAnyY_pure (i := 30) 169 (v := .pointer (some ⟨wr.heap.size, 0, none⟩)) rfl rfl (by kernel_rfl) (by kernel_rfl) (by kernel_rfl) (fun _ _ _ h => h) (Or.inl ⟨by rfl, by (intro W _; go_simp)⟩) ?_
                    simp only [Act.put, List.setIfInBounds_toArray, List.set_cons_succ, List.set_cons_zero]
                    refine wpAnyY_takeD (i := 31) 170 (v := .int .i64 (r : Int)) rfl rfl (by kernel_rfl) (by kernel_rfl) (late_of (by kernel_rfl)) (by kernel_rfl) (by kernel_rfl) (fun _ _ _ h => h) HS.out (Or.inl ⟨by rfl, by (intro W hW; obtain ⟨e1c, e2c, e3c, e4c⟩ := hW; go_simp)⟩) ?_
                    simp only [Act.put, List.setIfInBounds_toArray, List.set_cons_succ, List.set_cons_zero]
                    refine wpAnyY_pure (i := 32) 171 (v := .pointer (some ⟨rb, ro + r, none⟩)) rfl rfl (by kernel_rfl) (by kernel_rfl) (by kernel_rfl) (fun _ _ _ h => h) (Or.inl ⟨by rfl, by (intro W _; go_simp)⟩) ?_
                    simp only [Act.put, List.setIfInBounds_toArray, List.set_cons_succ, List.set_cons_zero]
                    refine wpAnyY_takeD (i := 33) 172 (v := .string (bs s)) rfl rfl (by kernel_rfl) (by kernel_rfl) (late_of (by kernel_rfl)) (by kernel_rfl) (by kernel_rfl) (fun _ _ _ h => h) HS.out (Or.inl ⟨by rfl, by (intro W hW; obtain ⟨e1c, e2c, e3c, e4c⟩ := hW; go_simp)⟩) ?_
                    simp only [Act.put, List.setIfInBounds_toArray, List.set_cons_succ, List.set_cons_zero]
                    refine wpAnyY_pure (i := 34) 173 (v := .pointer (some ⟨wr.heap.size, 1, none⟩)) rfl rfl (by kernel_rfl) (by kernel_rfl) (by kernel_rfl) (fun _ _ _ h => h) (Or.inl ⟨by rfl, by (intro W _; go_simp)⟩) ?_
                    simp only [Act.put, List.setIfInBounds_toArray, List.set_cons_succ, List.set_cons_zero]
                    refine wpAnyY_takeD (i := 35) 174 (v := .int .i64 (a : Int)) rfl rfl (by kernel_rfl) (by kernel_rfl) (late_of (by kernel_rfl)) (by kernel_rfl) (by kernel_rfl) (fun _ _ _ h => h) HS.out (Or.inl ⟨by rfl, by (intro W hW; obtain ⟨e1c, e2c, e3c, e4c⟩ := hW; go_simp)⟩) ?_
                    simp only [Act.put, List.setIfInBounds_toArray, List.set_cons_succ, List.set_cons_zero]
                    refine wpAnyY_pure (i := 36) 175 (v := .pointer (some ⟨wr.heap.size, 1, none⟩)) rfl rfl (by kernel_rfl) (by kernel_rfl) (by kernel_rfl) (fun _ _ _ h => h) (Or.inl ⟨by rfl, by (intro W _; go_simp)⟩) ?_
                    simp only [Act.put, List.setIfInBounds_toArray, List.set_cons_succ, List.set_cons_zero]
                    refine wpAnyY_takeD (i := 37) 176 (v := .int .i64 (a : Int)) rfl rfl (by kernel_rfl) (by kernel_rfl) (late_of (by kernel_rfl)) (by kernel_rfl) (by kernel_rfl) (fun _ _ _ h => h) HS.out (Or.inl ⟨by rfl, by (intro W hW; obtain ⟨e1c, e2c, e3c, e4c⟩ := hW; go_simp)⟩) ?_
                    simp only [Act.put, List.setIfInBounds_toArray, List.set_cons_succ, List.set_cons_zero]
                    refine wpAnyY_pure (i := 38) 177 (v := .int .i64 (kn : Int)) rfl rfl (by kernel_rfl) (by kernel_rfl) (by kernel_rfl) (fun _ _ _ h => h) (Or.inl ⟨by rfl, by (intro W _; go_simp)⟩) ?_
                    simp only [Act.put, List.setIfInBounds_toArray, List.set_cons_succ, List.set_cons_zero]
                    refine wpAnyY_pure (i := 39) 178 (v := .int .i64 ((a : Int) + (kn : Int))) rfl rfl (by kernel_rfl) (by kernel_rfl) (by kernel_rfl) (fun _ _ _ h => h) (Or.inl ⟨by rfl, by (intro W _; go_simp)⟩) ?_
                    simp only [Act.put, List.setIfInBounds_toArray, List.set_cons_succ, List.set_cons_zero]
                    refine wpAnyY_pure (i := 40) 179 (v := .string (bs wd)) rfl rfl (by kernel_rfl) (by kernel_rfl) (by kernel_rfl) (fun _ _ _ h => h) (Or.inl ⟨by rfl, by (intro W _; go_simp)⟩) ?_
                    simp only [Act.put, List.setIfInBounds_toArray, List.set_cons_succ, List.set_cons_zero]
                    refine wpAnyY_pure (i := 41) 180 (v := .slice (some ⟨b, off, none⟩) m' wc) rfl rfl (by kernel_rfl) (by kernel_rfl) (by kernel_rfl) (fun _ _ _ h => h) (Or.inl ⟨by rfl, by (intro W _; go_simp)⟩) ?_
                    simp only [Act.put, List.setIfInBounds_toArray, List.set_cons_succ, List.set_cons_zero]
                    refine wpAnyY_pure (i := 42) 181 (v := .int .i64 (j : Int)) rfl rfl (by kernel_rfl) (by kernel_rfl) (by kernel_rfl) (fun _ _ _ h => h) (Or.inl ⟨by rfl, by (intro W _; go_simp)⟩) ?_
                    simp only [Act.put, List.setIfInBounds_toArray, List.set_cons_succ, List.set_cons_zero]
                    refine wpAnyY_pure (i := 43) 182 (v := .pointer (some ⟨b, off + j, none⟩)) rfl rfl (by kernel_rfl) (by kernel_rfl) (by kernel_rfl) (fun _ _ _ h => h) (Or.inl ⟨by rfl, by (intro W _; go_simp)⟩) ?_
                    simp only [Act.put, List.setIfInBounds_toArray, List.set_cons_succ, List.set_cons_zero]
                    refine wpAnyY_takeD (i := 44) 183 (v := .string (bs wd)) rfl rfl (by kernel_rfl) (by kernel_rfl) (late_of (by kernel_rfl)) (by kernel_rfl) (by kernel_rfl) (fun _ _ _ h => h) HS.out (Or.inl ⟨by rfl, by (intro W hW; obtain ⟨e1c, e2c, e3c, e4c⟩ := hW; go_simp)⟩) ?_
                    simp only [Act.put, List.setIfInBounds_toArray, List.set_cons_succ, List.set_cons_zero]
                    refine wpAnyY_pure (i := 45) 184 (v := .bool false) rfl rfl (by kernel_rfl) (by kernel_rfl) (by kernel_rfl) (fun _ _ _ h => h) (Or.inl ⟨by rfl, by (intro W _; go_simp)⟩) ?_
                    simp only [Act.put, List.setIfInBounds_toArray, List.set_cons_succ, List.set_cons_zero]
                    refine wpAnyY_pure (i := 46) 185 (v := .bool false) rfl rfl (by kernel_rfl) (by kernel_rfl) (by kernel_rfl) (fun _ _ _ h => h) (Or.inl ⟨by rfl, by (intro W _; go_simp)⟩) ?_
                    simp only [Act.put, List.setIfInBounds_toArray, List.set_cons_succ, List.set_cons_zero]
                    refine wpAnyY_done (by kernel_rfl) ?_ _
                    refine HKk.out _ _ (Met.intro (HJ.out _ _ ?_))
                    repeat apply Exists.intro
                    exact ⟨⟨rfl, rfl⟩, rfl⟩
                  case rest =>
                  obtain ⟨rfl, rfl⟩ := hcut
                  clear c3 c4 hsl e1 e2 e3 e4 e2n e4n e5 hzs
                  go_upto_region 35 with (fail)
                  go_cut [220] from 230 (fun v wc => v = .bool false ∧ wc = wz.drew.drew)
                  case rest =>
                    obtain ⟨rfl, rfl⟩ := hcut
                    go_wp2
                    go_roundg (gk - 1)
                    case rel => exact ⟨t + 1, by omega, by go_num, HBz.out.1.drew.drew, HBz.out.2.drew.drew⟩
                    case measure => omega
                  case first =>
                  rename_i hJ hK
                  have HJ := hid hJ
                  have HKk := hid hK
                  rcases H36.out with h0 | ⟨h0, o1, o2, y1, y2, hlt1 | ⟨heq1, hlt2⟩⟩
                  · have f1 : decide ((0 : Int) < (t : Int)) = false := decide_eq_false (by omega)
                    have f1n : decide (0 < t) = false := decide_eq_false (by omega)
                    clear h0
                    go_region
                    refine HKk.out _ _ (Met.intro (HJ.out _ _ ?_))
                    repeat apply Exists.intro
                    exact ⟨⟨rfl, rfl⟩, rfl⟩
                  · have f1 : decide ((0 : Int) < (t : Int)) = true := decide_eq_true (by omega)
                    have f1n : decide (0 < t) = true := decide_eq_true (by omega)
                    have f2 : decide ((r : Int) < o1) = false := decide_eq_false (by omega)
                    have f3 : (o1 == (r : Int)) = false := by simp; omega
                    have f3d : decide (o1 = (r : Int)) = false := decide_eq_false (by omega)
                    go_region
                    refine HKk.out _ _ (Met.intro (HJ.out _ _ ?_))
                    repeat apply Exists.intro
                    exact ⟨⟨rfl, rfl⟩, rfl⟩
                  · subst heq1
                    have f1 : decide ((0 : Int) < (t : Int)) = true := decide_eq_true (by omega)
                    have f1n : decide (0 < t) = true := decide_eq_true (by omega)
                    have f4 : decide ((a : Int) ≤ o2) = false := decide_eq_false (by omega)
                    go_region
                    refine HKk.out _ _ (Met.intro (HJ.out _ _ ?_))
                    repeat apply Exists.intro
                    exact ⟨⟨rfl, rfl⟩, rfl⟩
                · have hdq : decide ((t : Int) < (q : Int)) = false := decide_eq_false (by omega)
                  have hLl2 := HL.out
                  have hsp2 := HSp.out.1
                  have HY : Hid ((L.length : Int) - (sumP L (ws.take (j + 1)) : Int) = (L.length : Int) - (sumP L (ws.take j) : Int) - (q : Int)) := by have h1 := HT.out; have h2 := HQq.out; show _ = _; omega
                  go_wp2
                  go_roundg (gO - 1)
                  case rel => exact ⟨j + 1, by omega, by rw [HY.out] <;> go_num, by go_num, HB9.out.1, HB67.out⟩
                  case measure => omega
          · have hdlt : decide ((j : Int) < (m' : Int)) = false := decide_eq_false (by omega)
            have HY : Hid ((L.length : Int) - (sumP L (ws.take j) : Int) = 0) := by
              show _ = _
              rw [List.take_of_length_le (by have := HM.out; omega), HS.out]; omega
            rw [HY.out]
            go_wp2
            try rw [Exit.noGoto_ret]
            go_ret
            exact ⟨rfl, HBr.out.1⟩
  · have HF := hid z
    have n1 : (E != 0) = true := by simpa using z
    clear z
    go_wp2_with (first
      | (go_at_call 8; refine (awake_calls _).mono ?_; rintro e w1 ⟨rfl, hb⟩; have HB1 := hid hb; clear hb)
      | (go_at_call 9; refine (hN _ HB1.out).mono ?_; intro e w2 hp; obtain ⟨rfl, hb⟩ := new_bad hp HE.out HF.out; have HB2 := hid (below_two HB1.out hb); clear hp hb hN)
      | (go_at_call 10; refine (hR _ HB2.out).mono ?_; intro e w3 hp; obtain ⟨rfl, hb⟩ := rnew_no hp HE.out HF.out; have HB3 := hid (below_two HB2.out hb); clear hp hb hR)
      | go_in)
    go_ret
    exact ⟨rfl, HB3.out⟩
namespace kmerAll
open Go.ChangeShapes Go.WideShapes Go.ChangeAt Go.RowKit
open Go.ChangeMaps (open_string shut_string)
theorem own : ownKnob Try.prog.godebug = none := by kernel_rfl
theorem laidOut : laidOutB Try.prog = true := by kernel_rfl
set_option maxRecDepth 100000 in
theorem lifted (os : Os) (started : os.Started) (H : Type) (enc : TypeId × Value → H) :
    ReturnsInHanded {} Try.checked os 4 .any (Rows.kmerAllSpec.pre6 enc Try.prog Try.f4 Rows.kmerAllRow.domain false) (Rows.kmerAllSpec.post enc Try.prog Try.f4 false true false false) := by
  refine returnsInHanded_of_change (C := Try.checked) own started (by kernel_rfl) Try.func4
    (ChangeSpec.witness6 (enc := enc) (C := Try.checked) false ⟨#[], #[.int .i64 0, .slice none 0 0], []⟩ 8 (by kernel_rfl) (by kernel_rfl) (by kernel_rfl) (by kernel_rfl)) ?_
  intro W base args ds gs before hval0 hW _ _
  have hval : ∀ (j : Nat) t v, Try.f4.params[j]? = some t → args[j]? = some v → Value.okWide Try.prog W .any base t v := hval0
  have hW' := hW
  obtain ⟨p, q, hA0, hV, rfl, hfz, hnd⟩ := hW
  have hA : DataW.TrodAll enc Try.prog W 0 (fun _ => true) true Try.f4.params.toList args.toList ds p := hA0
  rw [Try.params4] at hA hval
  obtain ⟨v0, vs0, d0, ds0, p0, q0, hargs, rfl, rfl, h0, r0⟩ := trodAll_cons hA
  obtain ⟨v1, vs1, d1, ds1, p1, q1, rfl, rfl, rfl, h1, r1⟩ := trodAll_cons r0
  obtain ⟨rfl, rfl, rfl⟩ := trodAll_nil r1
  obtain rfl : args = #[v0, v1] := by cases args; simp_all
  obtain ⟨rfl, rfl⟩ := trodVars_none hV
  obtain ⟨a0, rfl, rfl, rfl, w0⟩ := open_int Try.underlying3 (hval 0 3 v0 rfl rfl) h0
  obtain ⟨a1, len1, cap1, rfl⟩ := okWide_slice Try.underlying22 (hval 1 22 v1 rfl rfl)
  have k1 := h1
  have lt1 : ∀ x ∈ p1, x.block < W.heap.size := by obtain ⟨m, hm⟩ := k1; exact DataW.trod_lt m _ _ _ hm
  obtain ⟨z1, w1⟩ : ∃ l, WdsIn W a1 len1 cap1 l := by
    obtain ⟨fuel, hf⟩ := h1
    obtain ⟨ao, n, c, l, hcs, hl⟩ := open_wds hf
    simp [Value.cells] at hcs
    obtain ⟨rfl, rfl, rfl⟩ := hcs
    exact ⟨l, hl⟩
  clear hA0 hval0
  refine (all_walk a0 a1 len1 cap1 z1 W w1).mono fun e W' ⟨he, bel⟩ => ?_
  subst he
  exact ⟨_, rfl, _, _, _, [], _, [], hW', trodAll_mk1 (shut_bool Try.underlying4 _), (trodAll_cons_mk (shut_int Try.underlying3 w0) (trodAll_cons_mk (Below.trod laidOut (by kernel_rfl) (of_decide_eq_true (by kernel_rfl)) k1 bel lt1) trodAll_mk0)), rfl, bel.frame _, fun h => by cases h⟩
end kmerAll

theorem kmerAll_holds : Rows.KmerAllSaid :=
  OpenClaim.holds_of_wide 4 Try.f4 rfl rfl rfl rfl rfl rfl rfl ⟨rfl, rfl, rfl, rfl, rfl⟩ rfl rfl rfl rfl rfl (by kernel_rfl) Try.func4 (by kernel_rfl)
    (of_decide_eq_true (by kernel_rfl)) (by unfold Func.isWrapper; first | (rw [if_pos (by decide +kernel)]; kernel_rfl) | (rw [if_neg (by decide +kernel)]; exact ⟨rfl, rfl⟩))
    (fun os started H enc _ => kmerAll.lifted os started H enc)

end Go.Proofs.Ytnidinppglkcpaa
