/-
  KmerShift: with letters ahead of a reference each word stands as many places farther on.
-/
import Derived.Test.YtnidinppglkcpaaRows
import Derived.Test.YtnidinppglkcpaaChecked
import Derived.Test.YtnidinppglkcpaaKmT
import Derived.Test.YtnidinppglkcpaaKsP
import Derived.ProofKit
import Derived.ShutString
import Derived.ChangeOld
import Derived.OpenShut
import Derived.Deep.DeepHandedRow
namespace Go.Proofs.Ytnidinppglkcpaa
open Go.RowKit Go.Maps

theorem rnew_ok {k : Int} {refs : List Wd} {w w' : World} {e : Ending} (h : RNewPost k refs w e w') (h0 : refB k refs = 0) : ∃ y g, e = .returned (.tuple #[.pointer (some ⟨y, 0, none⟩), .int .i64 0]) ∧ RxAt w' y g k refs ∧ Below w.heap.size w w' := by
  rcases h.2 with ⟨h1, _⟩ | ⟨_, y, g, he, hx⟩
  · exact absurd h0 h1
  · exact ⟨y, g, he, hx, h.1⟩
theorem rnew_no {k : Int} {refs : List Wd} {w w' : World} {e : Ending} {E : Int} (h : RNewPost k refs w e w') (h0 : refB k refs = E) (hE : E ≠ 0) : e = .returned (.tuple #[.pointer none, .int .i64 E]) ∧ Below w.heap.size w w' := by
  rcases h.2 with ⟨_, he⟩ | ⟨h1, _⟩
  · exact ⟨by rw [he, h0], h.1⟩
  · exact absurd (h0.symm.trans h1) hE
theorem new1_calls (k : Int) (S : Wd) (hS : S.length ≤ maxLen) (W : World) : Calls Try.prog 9 #[.int .i64 k, .slice (some ⟨W.heap.size, 0, none⟩) 1 1] (W.alloc (.cells #[.string (bs S)] 9)) (NewPost k [S] (W.alloc (.cells #[.string (bs S)] 9))) :=
  new_calls k [S] (some ⟨W.heap.size, 0, none⟩) 1 1 _ (wds_new (zs := [S]) (heap_alloc_new W _) rfl (by simp [maxLen])) (by simpa using hS)
theorem rnew1_calls (k : Int) (S : Wd) (hS : S.length ≤ maxLen) (W : World) : Calls Try.prog 10 #[.int .i64 k, .slice (some ⟨W.heap.size, 0, none⟩) 1 1] (W.alloc (.cells #[.string (bs S)] 9)) (RNewPost k [S] (W.alloc (.cells #[.string (bs S)] 9))) :=
  rnew_calls k [S] (some ⟨W.heap.size, 0, none⟩) 1 1 _ (wds_new (zs := [S]) (heap_alloc_new W _) rfl (by simp [maxLen])) (by simpa using hS) (by intro h; cases h)
theorem find_ok {w : World} {base x mb : Nat} {k : Int} {L : List Oc} {f : Wd → Value} (h : IxAt w base x mb k L f) (s : Wd) (hk : (s.length : Int) = k) (hk2 : k ≤ 16) (hL : L.length < 2147483648) :
    Calls Try.prog 18 #[.pointer (some ⟨x, 0, none⟩), .string (bs s)] w fun e w' => ∃ v, e = .returned (.tuple #[v, .int .i64 0]) ∧ w'.ownsRow w.heap.size 46 2 v (plsOf L s).length (plVals (plsOf L s)) ∧ Below w.heap.size w w' := by
  refine (find_calls h s (by unfold maxLen; omega) hL).mono ?_
  rintro e w' ⟨v, rfl, ho, hb⟩
  rw [if_pos hk] at ho ⊢
  exact ⟨v, rfl, ho, hb⟩
theorem wd_len {k : Int} {refs : List Wd} (h0 : refB k refs = 0) {wd : Wd} (h : wd ∈ wdsOf (occ k.toNat 0 refs)) : (wd.length : Int) = k := by
  obtain ⟨o, ho, rfl⟩ := (wds_mem _ _).1 h
  have := occ_word_len ho
  have := ref_ok h0
  omega
theorem occ_16 {k : Int} {refs : List Wd} (h0 : refB k refs = 0) : ∀ o ∈ occ k.toNat 0 refs, o.1.length ≤ 16 := by
  intro o ho
  have := occ_word_len ho
  have := ref_ok h0
  omega
theorem cat_bs (A S : Wd) : bs A ++ bs S = bs (A ++ S) := by
  refine byte_ext ?_
  simp [bs]
theorem pls_row {w : World} {base n : Nat} {v : Value} {l : List Pl} (h : w.ownsRow base 46 2 v l.length (plVals l)) (hn : l.length = n) : ∃ ao cap, v = .slice ao n cap ∧ PlsAt w ao n l := by
  subst hn
  obtain ⟨ao, cap, rfl⟩ := owned_shape h
  exact ⟨ao, cap, rfl, pls_owned h⟩
theorem wds_row {w : World} {base : Nat} {v : Value} {l : List Wd} (h : w.ownsRow base 9 1 v l.length (wdVals l)) : ∃ ao cap, v = .slice ao l.length cap ∧ WdsAt w ao l.length l := by
  obtain ⟨ao, cap, rfl⟩ := owned_shape h
  exact ⟨ao, cap, rfl, wds_owned h⟩
set_option maxRecDepth 20000 in
set_option maxHeartbeats 4000000 in
theorem shift_walk (k : Int) (S A : Wd) (w : World) (hS : S.length ≤ maxLen) :
    Calls Try.prog 6 #[.int .i64 k, .string (bs S), .string (bs A)] w fun e w' => e = .returned (.bool true) ∧ Below w.heap.size w w' := by
  have hzS := bs_size S
  have hzA := bs_size A
  by_cases h1 : 1073741823 < S.length
  · have d1 : decide ((1073741823 : Int) < (S.length : Int)) = true := decide_eq_true (by omega)
    go_enter Try.func6, Try.ntmps6
    go_wp2
    go_ret
    exact ⟨rfl, Below.refl _ _⟩
  have d1 : decide ((1073741823 : Int) < (S.length : Int)) = false := decide_eq_false (by omega)
  by_cases h2 : 1073741823 < A.length
  · have d2 : decide ((1073741823 : Int) < (A.length : Int)) = true := decide_eq_true (by omega)
    go_enter Try.func6, Try.ntmps6
    go_wp2
    go_ret
    exact ⟨rfl, Below.refl _ _⟩
  have d2 : decide ((1073741823 : Int) < (A.length : Int)) = false := decide_eq_false (by omega)
  have hcat := cat_bs A S
  have hcc : ¬ (9223372036854775807 < A.length + S.length) := by omega
  have hN1 := new1_calls k S hS
  have hN2 := new1_calls k (A ++ S) (by rw [List.length_append]; unfold maxLen; omega)
  have hR1 := rnew1_calls k S hS
  have hR2 := rnew1_calls k (A ++ S) (by rw [List.length_append]; unfold maxLen; omega)
  have HZ : Hid (A.length ≤ 1073741823) := by show _ ≤ _; omega
  have tok1 : True := trivial
  have tok2 : True := trivial
  obtain ⟨E1, hE1⟩ : ∃ E1, refB k [S] = E1 := ⟨_, rfl⟩
  obtain ⟨E2, hE2⟩ : ∃ E2, refB k [A ++ S] = E2 := ⟨_, rfl⟩
  have HE1 := hid hE1
  have HE2 := hid hE2
  clear hE1 hE2 h1 h2 hS
  by_cases z1 : E1 = 0
  · subst z1
    by_cases z2 : E2 = 0
    · subst z2
      go_enter Try.func6, Try.ntmps6
      go_wp2_with (first
        | (go_at_call 8; refine (awake_calls _).mono ?_; rintro e w1 ⟨rfl, hb⟩; have HB1 := hid hb; clear hb)
        | (go_at_call 9; have _t := tok1; refine (hN1 _).mono ?_; intro e w2 hp; obtain ⟨x1, m1, f1, rfl, hx, hb⟩ := new_ok hp HE1.out; have HX2 := hid hx; have HB2 := hid (below_two (HB1.out.alloc HB1.out.size _) hb); clear tok1 hp hx hb hN1)
        | (go_at_call 9; refine (hN2 _).mono ?_; intro e w3 hp; obtain ⟨x2, m2, f2, rfl, hx, hb⟩ := new_ok hp HE2.out; have HY3 := hid hx; have HX3 := hid ((HX2.out.alloc (.cells #[.string (bs (A ++ S))] 9)).below hb); have HB3 := hid (below_two (HB2.out.alloc HB2.out.size _) hb); clear hp hx hb hN2)
        | (go_at_call 10; have _t := tok2; refine (hR1 _).mono ?_; intro e w4 hp; obtain ⟨y1, g1, rfl, hx, hb⟩ := rnew_ok hp HE1.out; have HX4 := hid ((HX3.out.alloc (.cells #[.string (bs S)] 9)).below hb); have HY4 := hid ((HY3.out.alloc (.cells #[.string (bs S)] 9)).below hb); have HB4 := hid (below_two (HB3.out.alloc HB3.out.size _) hb); clear tok2 hp hx hb hR1)
        | (go_at_call 10; refine (hR2 _).mono ?_; intro e w5 hp; obtain ⟨y2, g2, rfl, hx, hb⟩ := rnew_ok hp HE2.out; have HX5 := hid ((HX4.out.alloc (.cells #[.string (bs (A ++ S))] 9)).below hb); have HY5 := hid ((HY4.out.alloc (.cells #[.string (bs (A ++ S))] 9)).below hb); have HB5 := hid (below_two (HB4.out.alloc HB4.out.size _) hb); clear hp hx hb hR2)
        | (go_at_call 17; refine (words_calls HX5.out (occ_len_bd HE1.out 0) (occ_16 HE1.out)).mono ?_; rintro e w6 ⟨v6, rfl, ho, hb⟩; have HX6 := hid (HX5.out.below hb); have HY6 := hid (HY5.out.below hb); obtain ⟨wa, wc, rfl, hw⟩ := wds_row ho; have HW6 := hid hw; have HB6 := hid (below_two HB5.out hb); clear ho hw hb)
        | go_in)
      clear HX2 HX3 HX4 HX5 HY3 HY4 HY5 HB1 HB2 HB3 HB4 HB5 hcat
      have HQ : Hid (∀ wd ∈ wdsOf (occ k.toNat 0 [S]), (wd.length : Int) = k ∧ ∃ pre : List Pl, (plsOf (occ k.toNat 0 [A ++ S]) wd = pre ++ (plsOf (occ k.toNat 0 [S]) wd).map (shP A.length) ∧ ∀ p ∈ plsOf (occ k.toNat 0 [S]) wd, 0 ≤ p.2 ∧ p.2 ≤ 1048576) ∧ ∀ p ∈ pre, p.2 < A.length) := fun wd h => ⟨wd_len HE1.out h, by
        obtain ⟨pre, h1, h2⟩ := shift_pls (A := A) h
        refine ⟨pre, ⟨h1, fun p hp => ?_⟩, h2⟩
        obtain ⟨r, a, rfl, hr, ha, _⟩ := pls_at hp
        have hS : S.length ≤ 65536 := (ref_ok HE1.out).2.2.2.1 S (by simp)
        have hr0 : r = 0 := by simp at hr; exact hr
        subst hr0
        simp at ha
        exact ⟨by simp, by simp; omega⟩⟩
      have HL : Hid ((occ k.toNat 0 [S]).length ≤ 1048576 ∧ (occ k.toNat 0 [A ++ S]).length ≤ 1048576 ∧ k ≤ 16 ∧ (wdsOf (occ k.toNat 0 [S])).length ≤ 1048576) := ⟨occ_len_bd HE1.out 0, occ_len_bd HE2.out 0, (ref_ok HE1.out).2.1, Nat.le_trans (wds_len _) (occ_len_bd HE1.out 0)⟩
      generalize occ k.toNat 0 [S] = L1 at *
      generalize occ k.toNat 0 [A ++ S] = L2 at *
      have hn := HW6.out.length
      have HN := HL.out.2.2.2
      generalize hW : wdsOf L1 = ws at *
      clear hW
      obtain ⟨n, hnn⟩ : ∃ n, ws.length = n := ⟨_, rfl⟩
      rw [hnn] at HW6 HN ⊢
      have HNN := hid hnn
      clear hnn hn
      go_loopg [17] n (fun g i wr => ∃ j : Nat, j + g = n ∧ i = .int .i64 j ∧ Below w.heap.size w wr ∧ Below w6.heap.size w6 wr)
      case atStart => exact ⟨0, Nat.zero_add _, rfl, HB6.out, Below.refl _ _⟩
      case round =>
        obtain ⟨j, hj, rfl, hb1, hb2⟩ := hrel
        have HBr := hid (And.intro hb1 hb2)
        clear hb1 hb2
        by_cases hlt : j < n
        · have hdlt : decide ((j : Int) < (n : Int)) = true := decide_eq_true (by omega)
          obtain ⟨b, off, rfl, hcs⟩ := (HW6.out.below HBr.out.2).cells (by omega)
          have hc1 := hcs j hlt
          have hin : ws.getD j [] ∈ ws := by rw [List.getD, List.getElem?_eq_getElem (by have := HNN.out; omega)]; exact List.getElem_mem _
          obtain ⟨hlen, pre, ⟨hpl, hrg⟩, hpre⟩ := HQ.out _ hin
          clear hcs hin
          generalize ws.getD j [] = wd at *
          have hf1 := find_ok (HX6.out.below HBr.out.2) wd hlen HL.out.2.2.1 (by have := HL.out.1; omega)
          have hf2 : ∀ W, Below w6.heap.size w6 W → Calls Try.prog 18 #[.pointer (some ⟨x2, 0, none⟩), .string (bs wd)] W fun e w' => ∃ v, e = .returned (.tuple #[v, .int .i64 0]) ∧ w'.ownsRow W.heap.size 46 2 v (plsOf L2 wd).length (plVals (plsOf L2 wd)) ∧ Below W.heap.size W w' := fun W hW => find_ok (HY6.out.below hW) wd hlen HL.out.2.2.1 (by have := HL.out.2.1; omega)
          have HP := hid (And.intro hpl hpre)
          have HG := hid hrg
          clear hrg
          have HLa : Hid ((plsOf L1 wd).length ≤ 1048576) := Nat.le_trans (pls_len _ _) HL.out.1
          have HLb : Hid ((plsOf L2 wd).length ≤ 1048576) := Nat.le_trans (pls_len _ _) HL.out.2.1
          generalize plsOf L1 wd = la at *
          generalize plsOf L2 wd = lb at *
          obtain ⟨m, hm⟩ : ∃ m, la.length = m := ⟨_, rfl⟩
          obtain ⟨t, ht⟩ : ∃ t, lb.length = t := ⟨_, rfl⟩
          have htm : t = pre.length + m := by rw [← ht, ← hm, hpl]; simp
          have HM := hid hm
          have HT := hid ht
          have HTM := hid htm
          have hm20 : m ≤ 1048576 := by have := HLa.out; omega
          have ht20 : t ≤ 1048576 := by have := HLb.out; omega
          have hmt : m ≤ t := by omega
          have hdt : decide ((t : Int) < (m : Int)) = false := decide_eq_false (by omega)
          have HC := hid hc1
          have tok3 : True := trivial
          clear hm ht htm hpl hpre hlen
          go_wp2_with (first
            | (go_at_call 18; have _t := tok3; refine hf1.mono ?_; rintro e w7 ⟨v7, rfl, ho, hb⟩; obtain ⟨aa, ac, rfl, hp7⟩ := pls_row ho HM.out; have HP7 := hid hp7; have HB7 := hid (And.intro (below_two HBr.out.1 hb) (below_two HBr.out.2 hb)); have hc7 := (hb.cell (World.block_lt_of_cell? _ _ HC.out)).trans HC.out; clear tok3 ho hb hp7 hf1)
            | (go_at_call 18; refine (hf2 _ HB7.out.2).mono ?_; rintro e w8 ⟨v8, rfl, ho, hb⟩; obtain ⟨ba, bc, rfl, hp8⟩ := pls_row ho HT.out; have HP8 := hid hp8; have HP78 := hid (HP7.out.below hb); have HB8 := hid (And.intro (below_two HB7.out.1 hb) (below_two HB7.out.2 hb)); clear ho hb hp8 hf2)
            | go_in)
          clear hc7 hc1
          obtain ⟨gO, rfl⟩ : ∃ gO, gO = gk := ⟨_, rfl⟩
          go_loopg [22] m (fun g i wr2 => ∃ q : Nat, q + g = m ∧ i = .int .i64 q ∧ Below w.heap.size w wr2 ∧ Below w8.heap.size w8 wr2)
          case atStart => exact ⟨0, Nat.zero_add _, rfl, HB8.out.1, Below.refl _ _⟩
          case round =>
            obtain ⟨q, hq, rfl, hb1, hb2⟩ := hrel
            have HB9 := hid (And.intro hb1 hb2)
            clear hb1 hb2
            by_cases hlq : q < m
            · have hdq : decide ((q : Int) < (m : Int)) = true := decide_eq_true (by omega)
              obtain ⟨ab, ao, rfl, hca⟩ := (HP78.out.below HB9.out.2).cells (by omega)
              obtain ⟨bb, bo, rfl, hcb⟩ := (HP8.out.below HB9.out.2).cells (by omega)
              obtain ⟨o, ho⟩ := get_len (l := la) (j := q) (by have := HM.out; omega)
              have ho2 : lb[pre.length + q]? = some (shP A.length o) := by
                rw [HP.out.1, List.getElem?_append_right (by omega), Nat.add_sub_cancel_left, List.getElem?_map, ho]; rfl
              obtain ⟨x1', x2'⟩ := hca q o ho
              obtain ⟨z1', z2'⟩ := hcb _ _ ho2
              clear hca hcb ho2
              obtain ⟨o1, o2⟩ := o
              have hom := ho
              clear ho
              simp only [shP] at x1' x2' z1' z2'
              have hob := HG.out (o1, o2) (List.mem_of_getElem? hom)
              simp only at hob
              clear hom
              have hZ := HZ.out
              have HX := hid (And.intro x1' x2')
              have HZ2 := hid (And.intro z1' z2')
              clear z1' z2'
              go_upto_region 25 with (fail)
              have etn : t - m + q = pre.length + q := by have := HTM.out; omega
              have y1 : (wr.alloc (.cells #[.int .i64 o1, .int .i64 (o2 + (A.length : Int))] 46)).cell? ⟨bb, bo + (t - m + q) * 2, none⟩ = some (.int .i64 o1) := by rw [etn]; exact cell_al HZ2.out.1 _
              have y2 : (wr.alloc (.cells #[.int .i64 o1, .int .i64 (o2 + (A.length : Int))] 46)).cell? ⟨bb, bo + (t - m + q) * 2 + 1, none⟩ = some (.int .i64 (o2 + (A.length : Int))) := by rw [etn]; exact cell_al HZ2.out.2 _
              have c1 : (wr.alloc (.cells #[.int .i64 o1, .int .i64 (o2 + (A.length : Int))] 46)).cell? ⟨wr.heap.size, 0, none⟩ = some (.int .i64 o1) := cell_block (heap_alloc_new wr _) 0 _ rfl
              have c2 : (wr.alloc (.cells #[.int .i64 o1, .int .i64 (o2 + (A.length : Int))] 46)).cell? ⟨wr.heap.size, 1, none⟩ = some (.int .i64 (o2 + (A.length : Int))) := cell_block (heap_alloc_new wr _) 1 _ rfl
              have HBz : Hid (Below w.heap.size w (wr.alloc (.cells #[.int .i64 o1, .int .i64 (o2 + (A.length : Int))] 46)) ∧ Below w8.heap.size w8 (wr.alloc (.cells #[.int .i64 o1, .int .i64 (o2 + (A.length : Int))] 46))) := ⟨HB9.out.1.alloc HB9.out.1.size _, HB9.out.2.alloc HB9.out.2.size _⟩
              have hne : ∀ W : World, (binOp .neq 46 (.agg #[.int .i64 o1, .int .i64 (o2 + (A.length : Int))]) (.agg #[.int .i64 o1, .int .i64 (o2 + (A.length : Int))])).run Try.prog W = .ok (.bool false) W := fun W => (neq46 _ _ _ _ W).trans (by simp)
              clear etn x1' x2'
              generalize (wr.alloc (.cells #[.int .i64 o1, .int .i64 (o2 + (A.length : Int))] 46)) = wz at *
              go_region
              go_wp2
              go_roundg (gk - 1)
              case rel => exact ⟨q + 1, by omega, by go_num, HBz.out.1.drew, HBz.out.2.drew⟩
              case measure => omega
            · have hdq : decide ((q : Int) < (m : Int)) = false := decide_eq_false (by omega)
              have HBe : Hid (Below w.heap.size w wr ∧ Below w6.heap.size w6 wr) := ⟨HB9.out.1, below_two HB8.out.2 HB9.out.2⟩
              by_cases hgt : m < t
              · have hdg : decide ((m : Int) < (t : Int)) = true := decide_eq_true (by omega)
                obtain ⟨bb, bo, rfl, hcb⟩ := (HP8.out.below HB9.out.2).cells (by omega)
                have hpn : 0 < pre.length := by have := HTM.out; omega
                obtain ⟨o, ho⟩ := get_len (l := pre) (j := pre.length - 1) (by omega)
                have ho2 : lb[pre.length - 1]? = some o := by
                  rw [HP.out.1, List.getElem?_append_left (by omega), ho]
                have hlo := HP.out.2 o (List.mem_of_getElem? ho)
                obtain ⟨z1', z2'⟩ := hcb _ _ ho2
                have etn : t - m - 1 = pre.length - 1 := by have := HTM.out; omega
                rw [← etn] at z2'
                have hdl : decide ((A.length : Int) ≤ o.2) = false := decide_eq_false (by omega)
                clear hcb ho ho2 z1' etn
                go_wp2
                go_roundg (gO - 1)
                case rel => exact ⟨j + 1, by omega, by go_num, HBe.out⟩
                case measure => omega
              · have hdg : decide ((m : Int) < (t : Int)) = false := decide_eq_false (by omega)
                go_wp2
                go_roundg (gO - 1)
                case rel => exact ⟨j + 1, by omega, by go_num, HBe.out⟩
                case measure => omega
        · have hdlt : decide ((j : Int) < (n : Int)) = false := decide_eq_false (by omega)
          go_wp2
          try rw [Exit.noGoto_ret]
          go_ret
          exact ⟨rfl, HBr.out.1⟩
    · have n2 : (E2 != 0) = true := by simpa using z2
      have HF2 := hid z2
      clear z2
      go_enter Try.func6, Try.ntmps6
      go_wp2_with (first
        | (go_at_call 8; refine (awake_calls _).mono ?_; rintro e w1 ⟨rfl, hb⟩; have HB1 := hid hb; clear hb)
        | (go_at_call 9; have _t := tok1; refine (hN1 _).mono ?_; intro e w2 hp; obtain ⟨x1, m1, f1, rfl, hx, hb⟩ := new_ok hp HE1.out; have HX2 := hid hx; have HB2 := hid (below_two (HB1.out.alloc HB1.out.size _) hb); clear tok1 hp hx hb hN1)
        | (go_at_call 9; refine (hN2 _).mono ?_; intro e w3 hp; obtain ⟨rfl, hb⟩ := new_bad hp HE2.out HF2.out; have HB3 := hid (below_two (HB2.out.alloc HB2.out.size _) hb); clear hp hb hN2)
        | (go_at_call 10; have _t := tok2; refine (hR1 _).mono ?_; intro e w4 hp; obtain ⟨y1, g1, rfl, hx, hb⟩ := rnew_ok hp HE1.out; have HB4 := hid (below_two (HB3.out.alloc HB3.out.size _) hb); clear tok2 hp hx hb hR1)
        | (go_at_call 10; refine (hR2 _).mono ?_; intro e w5 hp; obtain ⟨rfl, hb⟩ := rnew_no hp HE2.out HF2.out; have HB5 := hid (below_two (HB4.out.alloc HB4.out.size _) hb); clear hp hb hR2)
        | go_in)
      go_ret
      exact ⟨rfl, HB5.out⟩
  · have n1 : (E1 != 0) = true := by simpa using z1
    have HF1 := hid z1
    clear z1
    by_cases z2 : E2 = 0
    · subst z2
      go_enter Try.func6, Try.ntmps6
      go_wp2_with (first
        | (go_at_call 8; refine (awake_calls _).mono ?_; rintro e w1 ⟨rfl, hb⟩; have HB1 := hid hb; clear hb)
        | (go_at_call 9; have _t := tok1; refine (hN1 _).mono ?_; intro e w2 hp; obtain ⟨rfl, hb⟩ := new_bad hp HE1.out HF1.out; have HB2 := hid (below_two (HB1.out.alloc HB1.out.size _) hb); clear tok1 hp hb hN1)
        | (go_at_call 9; refine (hN2 _).mono ?_; intro e w3 hp; obtain ⟨x2, m2, f2, rfl, hx, hb⟩ := new_ok hp HE2.out; have HY3 := hid hx; have HB3 := hid (below_two (HB2.out.alloc HB2.out.size _) hb); clear hp hx hb hN2)
        | (go_at_call 10; have _t := tok2; refine (hR1 _).mono ?_; intro e w4 hp; obtain ⟨rfl, hb⟩ := rnew_no hp HE1.out HF1.out; have HB4 := hid (below_two (HB3.out.alloc HB3.out.size _) hb); clear tok2 hp hb hR1)
        | (go_at_call 10; refine (hR2 _).mono ?_; intro e w5 hp; obtain ⟨y2, g2, rfl, hx, hb⟩ := rnew_ok hp HE2.out; have HB5 := hid (below_two (HB4.out.alloc HB4.out.size _) hb); clear hp hx hb hR2)
        | go_in)
      go_ret
      exact ⟨rfl, HB5.out⟩
    · have n2 : (E2 != 0) = true := by simpa using z2
      have HF2 := hid z2
      clear z2
      go_enter Try.func6, Try.ntmps6
      go_wp2_with (first
        | (go_at_call 8; refine (awake_calls _).mono ?_; rintro e w1 ⟨rfl, hb⟩; have HB1 := hid hb; clear hb)
        | (go_at_call 9; have _t := tok1; refine (hN1 _).mono ?_; intro e w2 hp; obtain ⟨rfl, hb⟩ := new_bad hp HE1.out HF1.out; have HB2 := hid (below_two (HB1.out.alloc HB1.out.size _) hb); clear tok1 hp hb hN1)
        | (go_at_call 9; refine (hN2 _).mono ?_; intro e w3 hp; obtain ⟨rfl, hb⟩ := new_bad hp HE2.out HF2.out; have HB3 := hid (below_two (HB2.out.alloc HB2.out.size _) hb); clear hp hb hN2)
        | (go_at_call 10; have _t := tok2; refine (hR1 _).mono ?_; intro e w4 hp; obtain ⟨rfl, hb⟩ := rnew_no hp HE1.out HF1.out; have HB4 := hid (below_two (HB3.out.alloc HB3.out.size _) hb); clear tok2 hp hb hR1)
        | (go_at_call 10; refine (hR2 _).mono ?_; intro e w5 hp; obtain ⟨rfl, hb⟩ := rnew_no hp HE2.out HF2.out; have HB5 := hid (below_two (HB4.out.alloc HB4.out.size _) hb); clear hp hb hR2)
        | go_in)
      go_ret
      exact ⟨rfl, HB5.out⟩
theorem shift_walkB (k : Int) (s a : ByteArray) (w : World) (hs : s.size ≤ maxLen) :
    Calls Try.prog 6 #[.int .i64 k, .string s, .string a] w fun e w' => e = .returned (.bool true) ∧ Below w.heap.size w w' := by
  have := shift_walk k s.data.toList a.data.toList w (by rw [size_toList]; exact hs)
  rw [bs_of, bs_of] at this
  exact this
namespace kmerShift
open Go.ChangeShapes Go.WideShapes Go.ChangeAt Go.RowKit
open Go.ChangeMaps (open_string shut_string)
theorem own : ownKnob Try.prog.godebug = none := by kernel_rfl
set_option maxRecDepth 100000 in
theorem lifted (os : Os) (started : os.Started) (H : Type) (enc : TypeId × Value → H) :
    ReturnsInHanded {} Try.checked os 6 .any (Rows.kmerShiftSpec.pre6 enc Try.prog Try.f6 Rows.kmerShiftRow.domain false) (Rows.kmerShiftSpec.post enc Try.prog Try.f6 false true false false) := by
  refine returnsInHanded_of_change (C := Try.checked) own started (by kernel_rfl) Try.func6
    (ChangeSpec.witness6 (enc := enc) (C := Try.checked) false ⟨#[], #[.int .i64 0, .string ByteArray.empty, .string ByteArray.empty], []⟩ 8 (by kernel_rfl) (by kernel_rfl) (by kernel_rfl) (by kernel_rfl)) ?_
  intro W base args ds gs before hval0 hW _ _
  have hval : ∀ (j : Nat) t v, Try.f6.params[j]? = some t → args[j]? = some v → Value.okWide Try.prog W .any base t v := hval0
  have hW' := hW
  obtain ⟨p, q, hA0, hV, rfl, hfz, hnd⟩ := hW
  have hA : DataW.TrodAll enc Try.prog W 0 (fun _ => true) true Try.f6.params.toList args.toList ds p := hA0
  rw [Try.params6] at hA hval
  obtain ⟨v0, vs0, d0, ds0, p0, q0, hargs, rfl, rfl, h0, r0⟩ := trodAll_cons hA
  obtain ⟨v1, vs1, d1, ds1, p1, q1, rfl, rfl, rfl, h1, r1⟩ := trodAll_cons r0
  obtain ⟨v2, vs2, d2, ds2, p2, q2, rfl, rfl, rfl, h2, r2⟩ := trodAll_cons r1
  obtain ⟨rfl, rfl, rfl⟩ := trodAll_nil r2
  obtain rfl : args = #[v0, v1, v2] := by cases args; simp_all
  obtain ⟨rfl, rfl⟩ := trodVars_none hV
  obtain ⟨a0, rfl, rfl, rfl, w0⟩ := open_int Try.underlying3 (hval 0 3 v0 rfl rfl) h0
  obtain ⟨a1, rfl, rfl, rfl, w1⟩ := open_string Try.underlying9 (hval 1 9 v1 rfl rfl) h1
  obtain ⟨a2, rfl, rfl, rfl, w2⟩ := open_string Try.underlying9 (hval 2 9 v2 rfl rfl) h2
  clear hA0 hval0
  refine (shift_walkB a0 a1 a2 W w1).mono fun e W' ⟨he, bel⟩ => ?_
  subst he
  exact ⟨_, rfl, _, _, _, [], _, [], hW', trodAll_mk1 (shut_bool Try.underlying4 _), (trodAll_cons_mk (shut_int Try.underlying3 w0) (trodAll_cons_mk (shut_string Try.underlying9 w1) (trodAll_cons_mk (shut_string Try.underlying9 w2) trodAll_mk0))), rfl, bel.frame _, fun h => by cases h⟩
end kmerShift

theorem kmerShift_holds : Rows.KmerShiftSaid :=
  OpenClaim.holds_of_wide 6 Try.f6 rfl rfl rfl rfl rfl rfl rfl ⟨rfl, rfl, rfl, rfl, rfl⟩ rfl rfl rfl rfl rfl (by kernel_rfl) Try.func6 (by kernel_rfl)
    (of_decide_eq_true (by kernel_rfl)) (by unfold Func.isWrapper; first | (rw [if_pos (by decide +kernel)]; kernel_rfl) | (rw [if_neg (by decide +kernel)]; exact ⟨rfl, rfl⟩))
    (fun os started H enc _ => kmerShift.lifted os started H enc)

end Go.Proofs.Ytnidinppglkcpaa
