/-
  KmerMore: one reference more: each word where it stood, and behind that in the new one.
-/
import Derived.Test.YtnidinppglkcpaaRows
import Derived.Test.YtnidinppglkcpaaChecked
import Derived.Test.YtnidinppglkcpaaKmN
import Derived.ProofKit
import Derived.ShutString
import Derived.ChangeOld
import Derived.OpenShut
import Derived.Deep.DeepHandedRow
namespace Go.Proofs.Ytnidinppglkcpaa
open Go.RowKit Go.Maps

set_option maxRecDepth 20000 in
set_option maxHeartbeats 4000000 in
theorem more_walk (k : Int) (ao : Option Addr) (n c : Nat) (refs : List Wd) (more : Wd) (w : World) (h : WdsIn w ao n c refs) (hm : more.length ≤ maxLen) :
    Calls Try.prog 5 #[.int .i64 k, .slice ao n c, .string (bs more)] w fun e w' => e = .returned (.bool true) ∧ Below w.heap.size w w' := by
  obtain ⟨i0, hi, hz0, hz1, hz2⟩ := info_parts info9
  have hwg := weighs_calls refs ao n c w h.at' h.short
  have HI := hid h
  have HMx := hid hm
  have hzm := bs_size more
  have HIn : Hid (Try.prog.info? 9 = some i0 ∧ i0.zero = some (.string ⟨#[]⟩) ∧ i0.size = 1 ∧ i0.bytes = 16) := ⟨hi, hz0, hz1, hz2⟩
  clear h hm hi hz0 hz1 hz2
  go_enter Try.func5, Try.ntmps5
  go_wp2_with fail
  refine hwg.mono ?_
  rintro e w0 ⟨v, rfl, hv, rfl⟩
  by_cases hvb : 2147483647 < v
  · have dv : decide ((2147483647 : Int) < v) = true := decide_eq_true hvb
    go_wp2
    go_ret
    exact ⟨rfl, Below.refl _ _⟩
  have dv : decide ((2147483647 : Int) < v) = false := decide_eq_false hvb
  have hTt := hv (by omega)
  by_cases hmb : 2147483647 < more.length
  · have dm : decide ((2147483647 : Int) < (more.length : Int)) = true := decide_eq_true (by omega)
    have dmn : decide (2147483647 < more.length) = true := decide_eq_true (by omega)
    go_wp2
    go_ret
    exact ⟨rfl, Below.refl _ _⟩
  have dm : decide ((2147483647 : Int) < (more.length : Int)) = false := decide_eq_false (by omega)
  have dmn : decide (2147483647 < more.length) = false := decide_eq_false (by omega)
  have HTt := hid hTt
  clear hvb hv hwg hmb hTt
  obtain ⟨E, hE⟩ : ∃ E, refB k (refs ++ [more]) = E := ⟨_, rfl⟩
  have HE := hid hE
  clear hE
  have hshort : ∀ s ∈ refs ++ [more], s.length ≤ maxLen := by
    intro s hs
    rcases List.mem_append.1 hs with h1 | h1
    · exact HI.out.short s h1
    · simp at h1; subst h1; exact HMx.out
  have HSh := hid hshort
  clear hshort
  have hN1 := fun W (hW : Below w0.heap.size w0 W) => new_calls k refs ao n c W (HI.out.at'.below hW) HI.out.short
  have hN2 := fun (W : World) sa sc (hW : WdsAt W sa (n + 1) (refs ++ [more])) => new_calls k (refs ++ [more]) sa (n + 1) sc W hW HSh.out
  have hN3 : ∀ W : World, Calls Try.prog 9 #[.int .i64 k, .slice (some ⟨W.heap.size, 0, none⟩) 1 1] (W.alloc (.cells #[.string (bs more)] 9)) (NewPost k [more] (W.alloc (.cells #[.string (bs more)] 9))) := new1_calls k more HMx.out
  have hR := fun (W : World) g sc (hW : WdsAt W (some ⟨g, 0, none⟩) (n + 1) (refs ++ [more])) => rnew_calls k (refs ++ [more]) (some ⟨g, 0, none⟩) (n + 1) sc W hW HSh.out (by intro h; cases h)
  have tok1 : True := trivial
  have tok2 : True := trivial
  have tok3 : True := trivial
  by_cases z : E = 0
  · subst z
    have HE1 := hid (more_ok HE.out).1
    have HE3 := hid (more_ok HE.out).2
    go_wp2_with (first
      | (go_at_call 8; refine (awake_calls _).mono ?_; rintro e w1 ⟨rfl, hb⟩; have HB1 := hid hb; clear hb)
      | (have _t := tok3; refine wpList_append_opt rfl (.tmp 39) (.tmp 40) 22 rfl w1.heap.size 9 i0 _ 1 16 Try.underlying22 HIn.out.1 HIn.out.2.1 HIn.out.2.2.1 HIn.out.2.2.2 rfl (by decide) (.slice none 0 0) 0 [] rfl (World.ownsRow_nil _ _ _ _) ao n c (wdVals refs) rfl (HI.out.at'.below HB1.out).src (by have := HTt.out; unfold maxLen; omega) (by have := HTt.out; omega) (Nat.le_refl _) ?_; intro v2 w2 ho hg; have HO2 := hid ho; have HG2 := hid ((Below.refl _ _).grown hg (Nat.le_refl _) (fun _ h => by cases h)); clear ho hg tok3)
      | (refine wpList_append_opt rfl (.tmp 42) (.tmp 44) 22 rfl w1.heap.size 9 i0 _ 1 16 Try.underlying22 HIn.out.1 HIn.out.2.1 HIn.out.2.2.1 HIn.out.2.2.2 rfl (by decide) v2 _ _ rfl (owned_below HO2.out (below_new _)) (some ⟨w2.heap.size, 0, none⟩) 1 1 [.string (bs more)] rfl (src_new [.string (bs more)] 9 1 rfl (by simp [Value.oneCell'])) (by have := HTt.out; unfold maxLen; omega) (by have := HTt.out; omega) (by have := HG2.out.size; simp; omega) ?_; intro v3 w3 ho hg; have hb3 : Below w1.heap.size w1 w3 := (HG2.out.alloc HG2.out.size _).grown hg (by have := HG2.out.size; simp; omega) (fun g hg1 => (own_lt HO2.out hg1).2); have HB3 := hid (below_two HB1.out hb3); obtain ⟨ga, gc, rfl, _⟩ := owned_some ho (by omega); have hw3 : WdsAt w3 (some ⟨ga, 0, none⟩) (n + 1) (refs ++ [more]) := wds_owned (by rw [List.nil_append] at ho; rw [Nat.zero_add] at ho; simpa [wdVals] using ho); have HW3 := hid hw3; clear ho hg hb3 hw3)
      | (go_at_call 9; have _t := tok1; refine (hN1 _ HB3.out).mono ?_; intro e w4 hp; obtain ⟨x1, m1, f1, rfl, hx, hb⟩ := new_ok hp HE1.out; have HX4 := hid hx; have HW4 := hid (HW3.out.below hb); have HB4 := hid (below_two HB3.out hb); clear tok1 hp hx hb hN1)
      | (go_at_call 9; have _t := tok2; refine (hN2 _ _ _ HW4.out).mono ?_; intro e w5 hp; obtain ⟨x2, m2, f2, rfl, hx, hb⟩ := new_ok hp HE.out; have HY5 := hid hx; have HX5 := hid (HX4.out.below hb); have HW5 := hid (HW4.out.below hb); have HB5 := hid (below_two HB4.out hb); clear tok2 hp hx hb hN2)
      | (go_at_call 9; refine (hN3 _).mono ?_; intro e w6 hp; obtain ⟨x3, m3, f3, rfl, hx, hb⟩ := new_ok hp HE3.out; have HZ6 := hid hx; have HX6 := hid ((HX5.out.alloc (.cells #[.string (bs more)] 9)).below hb); have HY6 := hid ((HY5.out.alloc (.cells #[.string (bs more)] 9)).below hb); have HW6 := hid ((HW5.out.below (below_new (.cells #[.string (bs more)] 9))).below hb); have HB6 := hid (below_two (HB5.out.alloc HB5.out.size _) hb); clear hp hx hb hN3)
      | (go_at_call 10; refine (hR _ _ _ HW6.out).mono ?_; intro e w7 hp; obtain ⟨y, g, rfl, hx, hb⟩ := rnew_ok hp HE.out; have HX7 := hid (HX6.out.below hb); have HY7 := hid (HY6.out.below hb); have HZ7 := hid (HZ6.out.below hb); have HB7 := hid (below_two HB6.out hb); clear hp hx hb hR)
      | (go_at_call 17; refine (words_calls HY7.out (occ_len_bd HE.out 0) (occ_16 HE.out)).mono ?_; rintro e w8 ⟨v8, rfl, ho, hb⟩; have HX8 := hid (HX7.out.below hb); have HY8 := hid (HY7.out.below hb); have HZ8 := hid (HZ7.out.below hb); obtain ⟨wa, wc, rfl, hw⟩ := wds_row ho; have HW8 := hid hw; have HB8 := hid (below_two HB7.out hb); clear ho hw hb)
      | go_in)
    obtain ⟨hk1, hk2, hnm, _⟩ := ref_ok HE.out
    have hnl : refs.length = n := HI.out.at'.length
    have hn64 : n ≤ 64 := by rw [List.length_append] at hnm; omega
    have HQ : Hid (∀ wd ∈ wdsOf (occ k.toNat 0 (refs ++ [more])), (wd.length : Int) = k ∧ plsOf (occ k.toNat 0 (refs ++ [more])) wd = plsOf (occ k.toNat 0 refs) wd ++ (plsOf (occ k.toNat 0 [more]) wd).map (reP n)) := fun wd hw => ⟨wd_len HE.out hw, by rw [more_pls, hnl]⟩
    have HL : Hid ((occ k.toNat 0 refs).length ≤ 1048576 ∧ (occ k.toNat 0 (refs ++ [more])).length ≤ 1048576 ∧ (occ k.toNat 0 [more]).length ≤ 1048576 ∧ k ≤ 16 ∧ (wdsOf (occ k.toNat 0 (refs ++ [more]))).length ≤ 1048576) := ⟨occ_len_bd HE1.out 0, occ_len_bd HE.out 0, occ_len_bd HE3.out 0, hk2, Nat.le_trans (wds_len _) (occ_len_bd HE.out 0)⟩
    clear hnm hnl hk1 hk2
    generalize occ k.toNat 0 refs = L1 at *
    generalize occ k.toNat 0 (refs ++ [more]) = L2 at *
    generalize occ k.toNat 0 [more] = L3 at *
    have HN := HL.out.2.2.2.2
    generalize hW : wdsOf L2 = ws at *
    clear hW
    obtain ⟨m', hmm⟩ : ∃ m', ws.length = m' := ⟨_, rfl⟩
    rw [hmm] at HW8 HN ⊢
    have HNN := hid hmm
    clear hmm
    go_loopg [19] m' (fun g i wr => ∃ j : Nat, j + g = m' ∧ i = .int .i64 j ∧ Below w0.heap.size w0 wr ∧ Below w8.heap.size w8 wr)
    case atStart => exact ⟨0, Nat.zero_add _, rfl, HB8.out, Below.refl _ _⟩
    case round =>
      obtain ⟨j, hj, rfl, hb1, hb2⟩ := hrel
      have HBr := hid (And.intro hb1 hb2)
      clear hb1 hb2
      by_cases hlt : j < m'
      · have hdlt : decide ((j : Int) < (m' : Int)) = true := decide_eq_true (by omega)
        obtain ⟨b, off, rfl, hcs⟩ := (HW8.out.below HBr.out.2).cells (by omega)
        have hc1 := hcs j hlt
        have hin : ws.getD j [] ∈ ws := by rw [List.getD, List.getElem?_eq_getElem (by have := HNN.out; omega)]; exact List.getElem_mem _
        obtain ⟨hlen, hpl⟩ := HQ.out _ hin
        clear hcs hin
        generalize ws.getD j [] = wd at *
        have hf1 := find_ok (HX8.out.below HBr.out.2) wd hlen HL.out.2.2.2.1 (by have := HL.out.1; omega)
        have hf2 : ∀ W, Below w8.heap.size w8 W → Calls Try.prog 18 #[.pointer (some ⟨x2, 0, none⟩), .string (bs wd)] W fun e w' => ∃ v, e = .returned (.tuple #[v, .int .i64 0]) ∧ w'.ownsRow W.heap.size 46 2 v (plsOf L2 wd).length (plVals (plsOf L2 wd)) ∧ Below W.heap.size W w' := fun W hW => find_ok (HY8.out.below hW) wd hlen HL.out.2.2.2.1 (by have := HL.out.2.1; omega)
        have hf3 : ∀ W, Below w8.heap.size w8 W → Calls Try.prog 18 #[.pointer (some ⟨x3, 0, none⟩), .string (bs wd)] W fun e w' => ∃ v, e = .returned (.tuple #[v, .int .i64 0]) ∧ w'.ownsRow W.heap.size 46 2 v (plsOf L3 wd).length (plVals (plsOf L3 wd)) ∧ Below W.heap.size W w' := fun W hW => find_ok (HZ8.out.below hW) wd hlen HL.out.2.2.2.1 (by have := HL.out.2.2.1; omega)
        have HP := hid hpl
        have HLa : Hid ((plsOf L1 wd).length ≤ 1048576) := Nat.le_trans (pls_len _ _) HL.out.1
        have HLb : Hid ((plsOf L2 wd).length ≤ 1048576) := Nat.le_trans (pls_len _ _) HL.out.2.1
        have HLc : Hid ((plsOf L3 wd).length ≤ 1048576) := Nat.le_trans (pls_len _ _) HL.out.2.2.1
        clear hpl hlen
        generalize plsOf L1 wd = la at *
        generalize plsOf L2 wd = lb at *
        generalize plsOf L3 wd = lc at *
        obtain ⟨na, hna⟩ : ∃ na, la.length = na := ⟨_, rfl⟩
        obtain ⟨nb, hnb⟩ : ∃ nb, lb.length = nb := ⟨_, rfl⟩
        obtain ⟨nc, hnc⟩ : ∃ nc, lc.length = nc := ⟨_, rfl⟩
        have HNa := hid hna
        have HNb := hid hnb
        have HNc := hid hnc
        have hna20 : na ≤ 1048576 := by have := HLa.out; omega
        have hnc20 : nc ≤ 1048576 := by have := HLc.out; omega
        have HC := hid hc1
        have tok4 : True := trivial
        have tok5 : True := trivial
        clear hna hnb hnc
        obtain ⟨i1, gi, gz0, gz1, gz2⟩ := info_parts info46
        have HIg : Hid (Try.prog.info? 46 = some i1 ∧ i1.zero = some (.agg #[.int .i64 0, .int .i64 0]) ∧ i1.size = 2 ∧ i1.bytes = 16) := ⟨gi, gz0, gz1, gz2⟩
        clear gi gz0 gz1 gz2
        go_wp2_with (first
          | (go_at_call 18; have _t := tok4; refine hf1.mono ?_; rintro e w9 ⟨v9, rfl, ho, hb⟩; obtain ⟨aa, ac, rfl, hp⟩ := pls_row ho HNa.out; have HP9 := hid hp; have HB9 := hid (And.intro (below_two HBr.out.1 hb) (below_two HBr.out.2 hb)); have hc9 := (hb.cell (World.block_lt_of_cell? _ _ HC.out)).trans HC.out; have HC9 := hid hc9; clear tok4 ho hb hp hf1)
          | (go_at_call 18; have _t := tok5; refine (hf2 _ HB9.out.2).mono ?_; rintro e w10 ⟨v10, rfl, ho, hb⟩; obtain ⟨ba, bc, rfl, hp⟩ := pls_row ho HNb.out; have HQ10 := hid hp; have HP10 := hid (HP9.out.below hb); have HB10 := hid (And.intro (below_two HB9.out.1 hb) (below_two HB9.out.2 hb)); have hc10 := (hb.cell (World.block_lt_of_cell? _ _ HC9.out)).trans HC9.out; clear tok5 ho hb hp hf2)
          | (go_at_call 18; refine (hf3 _ HB10.out.2).mono ?_; rintro e w11 ⟨v11, rfl, ho, hb⟩; obtain ⟨ca, cc, rfl, hp⟩ := pls_row ho HNc.out; have HR11 := hid hp; have HQ11 := hid (HQ10.out.below hb); have HP11 := hid (HP10.out.below hb); have HB11 := hid (And.intro (below_two HB10.out.1 hb) (below_two HB10.out.2 hb)); clear ho hb hp hf3)
          | (refine wpList_append_opt rfl (.tmp 135) (.tmp 136) 42 rfl w11.heap.size 46 i1 _ 2 16 Try.underlying42 HIg.out.1 HIg.out.2.1 HIg.out.2.2.1 HIg.out.2.2.2 rfl (by decide) (.slice none 0 0) 0 [] rfl (World.ownsRow_nil _ _ _ _) aa na ac (plVals la) rfl HP11.out.src (by unfold maxLen; omega) (by omega) (Nat.le_refl _) ?_; intro v12 w12 ho hg; have HO12 := hid ho; have HB12 := hid (And.intro (And.intro (HB11.out.1.trans (Below.mono ((Below.refl _ _).grown hg (Nat.le_refl _) (fun _ h => by cases h)) HB11.out.1.size)) (HB11.out.2.trans (Below.mono ((Below.refl _ _).grown hg (Nat.le_refl _) (fun _ h => by cases h)) HB11.out.2.size))) ((Below.refl _ _).grown hg (Nat.le_refl _) (fun _ h => by cases h))); clear ho hg)
          | go_in)
        clear hc9 hc10 hc1
        obtain ⟨gO, rfl⟩ : ∃ gO, gO = gk := ⟨_, rfl⟩
        have hn31 : n ≤ 64 := hn64
        go_loopg [26, 27] nc (fun g u i wr2 => ∃ t : Nat, t + g = nc ∧ i = .int .i64 t ∧ wr2.ownsRow w11.heap.size 46 2 u (na + t) (plVals la ++ plVals ((lc.take t).map (reP n))) ∧ Below w0.heap.size w0 wr2 ∧ Below w11.heap.size w11 wr2)
        case atStart => exact ⟨0, Nat.zero_add _, rfl, by have := HO12.out; rw [Nat.zero_add, List.nil_append] at this; simpa [plVals] using this, HB12.out.1.1, HB12.out.2⟩
        case round =>
          obtain ⟨t, ht, rfl, hown, hb1, hb2⟩ := hrel
          have HOw := hid hown
          have HBs := hid (And.intro hb1 hb2)
          clear hown hb1 hb2
          by_cases hlq : t < nc
          · have hdq : decide ((t : Int) < (nc : Int)) = true := decide_eq_true (by omega)
            obtain ⟨cb, co, rfl, hcc⟩ := (HR11.out.below HBs.out.2).cells (by omega)
            obtain ⟨o, ho⟩ := get_len (l := lc) (j := t) (by have := HNc.out; omega)
            obtain ⟨_, y2⟩ := hcc t _ ho
            have HTk : Hid ((lc.take (t + 1)).map (reP n) = (lc.take t).map (reP n) ++ [((n : Int), o.2)]) := by
              show _ = _
              obtain ⟨hl, rfl⟩ := List.getElem?_eq_some_iff.1 ho
              rw [List.take_succ_eq_append_getElem hl, List.map_append]; rfl
            clear hcc ho
            obtain ⟨o1, o2⟩ := o
            simp only at y2
            go_wp2_with (first
              | (refine wpList_append_opt rfl (.tmp 144) (.tmp 153) 42 rfl w11.heap.size 46 i1 _ 2 16 Try.underlying42 HIg.out.1 HIg.out.2.1 HIg.out.2.2.1 HIg.out.2.2.2 rfl (by decide) _ _ _ rfl (owned_below HOw.out (below_new (.cells (plCells ((n : Int), o2)).toArray 46))) (some ⟨wr.heap.size, 0, none⟩) 1 1 (plCells ((n : Int), o2)) rfl (src_new (plCells ((n : Int), o2)) 46 2 rfl (plc_one _)) (by unfold maxLen; omega) (by omega) (by have := HBs.out.2.size; simp; omega) ?_; intro u13 w13 ho hg; have HO13 := hid ho; have HB13 : Hid (Below w0.heap.size w0 w13 ∧ Below w11.heap.size w11 w13) := ⟨(HBs.out.1.alloc HBs.out.1.size _).grown hg (by have := HBs.out.1.size; simp; omega) (fun g hg1 => Nat.le_trans HB11.out.1.size (own_lt HOw.out hg1).2), (HBs.out.2.alloc HBs.out.2.size _).grown hg (by have := HBs.out.2.size; simp; omega) (fun g hg1 => (own_lt HOw.out hg1).2)⟩; clear ho hg)
              | go_in)
            go_roundg (gk - 1)
            case rel =>
              refine ⟨t + 1, by omega, by go_num, ?_, HB13.out.1, HB13.out.2⟩
              rw [HTk.out, plVals_snoc, ← List.append_assoc]
              exact HO13.out
            case measure => omega
          · have hdq : decide ((t : Int) < (nc : Int)) = false := decide_eq_false (by omega)
            obtain ⟨va, vc, hv⟩ := owned_shape HOw.out
            subst hv
            have hwant : PlsAt wr va (na + t) lb := by
              have h1 := HOw.out
              rw [List.take_of_length_le (by have := HNc.out; omega), ← plVals_append] at h1
              rw [HP.out]
              exact pls_owned h1
            have hpc := places_calls lb lb ba va nb bc (na + t) vc wr (HQ11.out.below HBs.out.2) hwant
            rw [decide_eq_true rfl] at hpc
            have HB8z := hid (below_two HB11.out.2 HBs.out.2)
            clear hwant
            go_wp2_with (first
              | (go_at_call 19; refine hpc.mono ?_; rintro e w14 ⟨rfl, hb⟩; have HB14 := hid (And.intro (below_two HBs.out.1 hb) (below_two HB8z.out hb)); clear hb)
              | go_in)
            go_roundg (gO - 1)
            case rel => exact ⟨j + 1, by omega, by go_num, HB14.out⟩
            case measure => omega
      · have hdlt : decide ((j : Int) < (m' : Int)) = false := decide_eq_false (by omega)
        go_wp2
        try rw [Exit.noGoto_ret]
        go_ret
        exact ⟨rfl, HBr.out.1⟩
  · have HF := hid z
    have n1 : (E != 0) = true := by simpa using z
    clear z
    go_wp2_with (first
      | (go_at_call 8; refine (awake_calls _).mono ?_; rintro e w1 ⟨rfl, hb⟩; have HB1 := hid hb; clear hb)
      | (have _t := tok3; refine wpList_append_opt rfl (.tmp 39) (.tmp 40) 22 rfl w1.heap.size 9 i0 _ 1 16 Try.underlying22 HIn.out.1 HIn.out.2.1 HIn.out.2.2.1 HIn.out.2.2.2 rfl (by decide) (.slice none 0 0) 0 [] rfl (World.ownsRow_nil _ _ _ _) ao n c (wdVals refs) rfl (HI.out.at'.below HB1.out).src (by have := HTt.out; unfold maxLen; omega) (by have := HTt.out; omega) (Nat.le_refl _) ?_; intro v2 w2 ho hg; have HO2 := hid ho; have HG2 := hid ((Below.refl _ _).grown hg (Nat.le_refl _) (fun _ h => by cases h)); clear ho hg tok3)
      | (refine wpList_append_opt rfl (.tmp 42) (.tmp 44) 22 rfl w1.heap.size 9 i0 _ 1 16 Try.underlying22 HIn.out.1 HIn.out.2.1 HIn.out.2.2.1 HIn.out.2.2.2 rfl (by decide) v2 _ _ rfl (owned_below HO2.out (below_new _)) (some ⟨w2.heap.size, 0, none⟩) 1 1 [.string (bs more)] rfl (src_new [.string (bs more)] 9 1 rfl (by simp [Value.oneCell'])) (by have := HTt.out; unfold maxLen; omega) (by have := HTt.out; omega) (by have := HG2.out.size; simp; omega) ?_; intro v3 w3 ho hg; have hb3 : Below w1.heap.size w1 w3 := (HG2.out.alloc HG2.out.size _).grown hg (by have := HG2.out.size; simp; omega) (fun g hg1 => (own_lt HO2.out hg1).2); have HB3 := hid (below_two HB1.out hb3); obtain ⟨ga, gc, rfl, _⟩ := owned_some ho (by omega); have hw3 : WdsAt w3 (some ⟨ga, 0, none⟩) (n + 1) (refs ++ [more]) := wds_owned (by rw [List.nil_append] at ho; rw [Nat.zero_add] at ho; simpa [wdVals] using ho); have HW3 := hid hw3; clear ho hg hb3 hw3)
      | (go_at_call 9; have _t := tok1; refine (hN1 _ HB3.out).mono ?_; intro e w4 hp; obtain ⟨p1, rfl, hb⟩ := new_any hp; have HW4 := hid (HW3.out.below hb); have HB4 := hid (below_two HB3.out hb); clear tok1 hp hb hN1)
      | (go_at_call 9; have _t := tok2; refine (hN2 _ _ _ HW4.out).mono ?_; intro e w5 hp; obtain ⟨rfl, hb⟩ := new_bad hp HE.out HF.out; have HW5 := hid (HW4.out.below hb); have HB5 := hid (below_two HB4.out hb); clear tok2 hp hb hN2)
      | (go_at_call 9; refine (hN3 _).mono ?_; intro e w6 hp; obtain ⟨p3, rfl, hb⟩ := new_any hp; have HW6 := hid ((HW5.out.below (below_new (.cells #[.string (bs more)] 9))).below hb); have HB6 := hid (below_two (HB5.out.alloc HB5.out.size _) hb); clear hp hb hN3)
      | (go_at_call 10; refine (hR _ _ _ HW6.out).mono ?_; intro e w7 hp; obtain ⟨rfl, hb⟩ := rnew_no hp HE.out HF.out; have HB7 := hid (below_two HB6.out hb); clear hp hb hR)
      | go_in)
    go_ret
    exact ⟨rfl, HB7.out⟩
theorem more_walkB (k : Int) (ao : Option Addr) (n c : Nat) (refs : List Wd) (s : ByteArray) (w : World) (h : WdsIn w ao n c refs) (hs : s.size ≤ maxLen) :
    Calls Try.prog 5 #[.int .i64 k, .slice ao n c, .string s] w fun e w' => e = .returned (.bool true) ∧ Below w.heap.size w w' := by
  have := more_walk k ao n c refs s.data.toList w h (by rw [size_toList]; exact hs)
  rw [bs_of] at this
  exact this
namespace kmerMore
open Go.ChangeShapes Go.WideShapes Go.ChangeAt Go.RowKit
open Go.ChangeMaps (open_string shut_string)
theorem own : ownKnob Try.prog.godebug = none := by kernel_rfl
theorem laidOut : laidOutB Try.prog = true := by kernel_rfl
set_option maxRecDepth 100000 in
theorem lifted (os : Os) (started : os.Started) (H : Type) (enc : TypeId × Value → H) :
    ReturnsInHanded {} Try.checked os 5 .any (Rows.kmerMoreSpec.pre6 enc Try.prog Try.f5 Rows.kmerMoreRow.domain false) (Rows.kmerMoreSpec.post enc Try.prog Try.f5 false true false false) := by
  refine returnsInHanded_of_change (C := Try.checked) own started (by kernel_rfl) Try.func5
    (ChangeSpec.witness6 (enc := enc) (C := Try.checked) false ⟨#[], #[.int .i64 0, .slice none 0 0, .string ByteArray.empty], []⟩ 8 (by kernel_rfl) (by kernel_rfl) (by kernel_rfl) (by kernel_rfl)) ?_
  intro W base args ds gs before hval0 hW _ _
  have hval : ∀ (j : Nat) t v, Try.f5.params[j]? = some t → args[j]? = some v → Value.okWide Try.prog W .any base t v := hval0
  have hW' := hW
  obtain ⟨p, q, hA0, hV, rfl, hfz, hnd⟩ := hW
  have hA : DataW.TrodAll enc Try.prog W 0 (fun _ => true) true Try.f5.params.toList args.toList ds p := hA0
  rw [Try.params5] at hA hval
  obtain ⟨v0, vs0, d0, ds0, p0, q0, hargs, rfl, rfl, h0, r0⟩ := trodAll_cons hA
  obtain ⟨v1, vs1, d1, ds1, p1, q1, rfl, rfl, rfl, h1, r1⟩ := trodAll_cons r0
  obtain ⟨v2, vs2, d2, ds2, p2, q2, rfl, rfl, rfl, h2, r2⟩ := trodAll_cons r1
  obtain ⟨rfl, rfl, rfl⟩ := trodAll_nil r2
  obtain rfl : args = #[v0, v1, v2] := by cases args; simp_all
  obtain ⟨rfl, rfl⟩ := trodVars_none hV
  obtain ⟨a0, rfl, rfl, rfl, w0⟩ := open_int Try.underlying3 (hval 0 3 v0 rfl rfl) h0
  obtain ⟨a1, len1, cap1, rfl⟩ := okWide_slice Try.underlying22 (hval 1 22 v1 rfl rfl)
  have k1 := h1
  have lt1 : ∀ x ∈ p1, x.block < W.heap.size := by obtain ⟨m, hm⟩ := k1; exact DataW.trod_lt m _ _ _ hm
  obtain ⟨z1, w1⟩ : ∃ l, WdsIn W a1 len1 cap1 l := by
    obtain ⟨fuel, hf⟩ := h1
    obtain ⟨ao, n, c, l, hcs, hl⟩ := open_wds hf
    simp [Value.cells] at hcs
    obtain ⟨rfl, rfl, rfl⟩ := hcs
    exact ⟨l, hl⟩
  obtain ⟨a2, rfl, rfl, rfl, w2⟩ := open_string Try.underlying9 (hval 2 9 v2 rfl rfl) h2
  clear hA0 hval0
  refine (more_walkB a0 a1 len1 cap1 z1 a2 W w1 w2).mono fun e W' ⟨he, bel⟩ => ?_
  subst he
  exact ⟨_, rfl, _, _, _, [], _, [], hW', trodAll_mk1 (shut_bool Try.underlying4 _), (trodAll_cons_mk (shut_int Try.underlying3 w0) (trodAll_cons_mk (Below.trod laidOut (by kernel_rfl) (of_decide_eq_true (by kernel_rfl)) k1 bel lt1) (trodAll_cons_mk (shut_string Try.underlying9 w2) trodAll_mk0))), rfl, bel.frame _, fun h => by cases h⟩
end kmerMore

theorem kmerMore_holds : Rows.KmerMoreSaid :=
  OpenClaim.holds_of_wide 5 Try.f5 rfl rfl rfl rfl rfl rfl rfl ⟨rfl, rfl, rfl, rfl, rfl⟩ rfl rfl rfl rfl rfl (by kernel_rfl) Try.func5 (by kernel_rfl)
    (of_decide_eq_true (by kernel_rfl)) (by unfold Func.isWrapper; first | (rw [if_pos (by decide +kernel)]; kernel_rfl) | (rw [if_neg (by decide +kernel)]; exact ⟨rfl, rfl⟩))
    (fun os started H enc _ => kmerMore.lifted os started H enc)

end Go.Proofs.Ytnidinppglkcpaa
