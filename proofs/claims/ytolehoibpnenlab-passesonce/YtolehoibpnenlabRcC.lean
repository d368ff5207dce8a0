/-
  What is asked of a recurrence: its states and their edges; the whole.
-/
import Derived.Test.YtolehoibpnenlabRcB
namespace Go.Proofs.Ytolehoibpnenlab
open Go.RowKit Go.Deep Go.Maps
theorem dropP {α : Type} {l : List α} {i : Nat} {d : α} (h : l[i]? = some d) : l.drop i = d :: l.drop (i + 1) := by
  obtain ⟨h1, h2⟩ := List.getElem?_eq_some_iff.1 h
  rw [List.drop_eq_getElem_cons h1, h2]
set_option maxRecDepth 20000 in
set_option maxHeartbeats 1000000 in
theorem rightEdges_calls (m n : Nat) (es : List (Int × Int)) (ea : Option Addr) (en ec : Nat) (w : World) (hm : m ≤ maxLen) (hn : n ≤ maxLen) (h : PcsAt w ea en es) :
    Calls Try.prog 46 #[.int .i64 (m : Int), .int .i64 (n : Int), .slice ea en ec] w fun e w' => e = .returned (.bool (edgesB m n (-1) es)) ∧ Below w.heap.size w w' := by
  have hen := h.short
  have HM : Hid (n ≤ maxLen) := hn
  unfold maxLen at hen hm hn
  have HP : Hid (PcsAt w ea en es) := h
  clear h
  obtain ⟨R, hR⟩ : ∃ R, edgesB m n (-1) es = R := ⟨_, rfl⟩
  have HR : Hid (edgesB m n (-1) (es.drop 0) = R) := by rw [List.drop_zero]; exact hR
  rw [hR]
  clear hR
  go_enter Try.func46, Try.ntmps46
  go_wp2
  go_loopw [7, 9, 12] (fun lv _ iv wr => ∃ (k : Nat) (least : Int), k ≤ en ∧ iv = .int .i64 k ∧ lv = .int .i64 least ∧ Hid (-1 ≤ least ∧ least ≤ m ∧ edgesB m n least (es.drop k) = R ∧ Below w.heap.size w wr)) (fun _ _ i _ => en - (intOf i).toNat)
  case atStart => exact ⟨0, -1, Nat.zero_le _, rfl, rfl, by omega, by omega, HR.out, Below.refl _ _⟩
  case round =>
    clear HR
    obtain ⟨k, least, hk, rfl, rfl, HT⟩ := hrel
    by_cases hlt : k < en
    · obtain ⟨d, hdi⟩ : ∃ d, es[k]? = some d := ⟨es[k]'(by rw [HP.out.length]; exact hlt), List.getElem?_eq_getElem _⟩
      obtain ⟨b, off, rfl, hcs⟩ := (HP.out.below HT.out.2.2.2).cells (by omega)
      obtain ⟨c1, c2⟩ := hcs k d hdi
      have HD : Hid (es.drop k = d :: es.drop (k + 1)) := dropP hdi
      clear hcs hdi
      obtain ⟨s, c⟩ := d
      simp only at c1 c2
      have HE : Hid ((inI s least ((m : Int) - 1) && (decide (c = -1) || inI c 0 ((n : Int) - 1)) && edgesB m n (s + 1) (es.drop (k + 1))) = R ∧ Below w.heap.size w (wr.alloc (.cells #[.int .i64 s, .int .i64 c] 42))) := by
        have := HT.out.2.2.1
        rw [HD.out] at this
        exact ⟨this, HT.out.2.2.2.alloc HT.out.2.2.2.size _⟩
      have hl1 := HT.out.1
      have hl2 := HT.out.2.1
      go_wp2_with fail
      refine (inI_calls s least ((m : Int) - 1) _).mono ?_
      rintro e w1 ⟨rfl, rfl⟩
      cases hr : inI s least ((m : Int) - 1) with
      | false =>
        rw [hr] at HE
        go_wp2
        go_ret
        exact ⟨ret_bool (by rw [← HE.out.1]; rfl), HE.out.2⟩
      | true =>
        have hs := inI_iff.1 hr
        obtain ⟨s1, s2⟩ := hs
        rw [hr] at HE
        clear hr
        by_cases hc : c = -1
        · subst hc
          have kc : ((-1 : Int) != -1) = false := rfl
          go_wp2
          go_roundw
          case rel => exact ⟨k + 1, s + 1, by omega, by go_num, by go_num, by omega, by omega, by rw [← HE.out.1]; rfl, HE.out.2⟩
          case measure => simp [intOf]; omega
        · have kc : (c != -1) = true := by simpa using hc
          have HB2 : Hid (Below w.heap.size w ((wr.alloc (.cells #[.int .i64 s, .int .i64 c] 42)).alloc (.cells #[.int .i64 c] 3))) := HE.out.2.alloc HE.out.2.size _
          go_wp2_with fail
          refine (places_calls n [c] _ 1 1 _ HM.out (one_intA _ c _ (by simp))).mono ?_
          rintro e w1 ⟨rfl, rfl⟩
          have hp : placesB n [c] = inI c 0 ((n : Int) - 1) := by simp [placesB]
          cases hr2 : placesB n [c] with
          | false =>
            rw [← hp, hr2, decide_eq_false hc] at HE
            go_wp2
            go_ret
            exact ⟨ret_bool (by rw [← HE.out.1]; rfl), HB2.out⟩
          | true =>
            rw [← hp, hr2, decide_eq_false hc] at HE
            clear hr2 hp
            go_wp2
            go_roundw
            case rel => exact ⟨k + 1, s + 1, by omega, by go_num, by go_num, by omega, by omega, by rw [← HE.out.1]; rfl, HB2.out⟩
            case measure => simp [intOf]; omega
    · have HE : Hid (R = true ∧ Below w.heap.size w wr) := by
        have := HT.out.2.2.1
        rw [List.drop_eq_nil_of_le (by rw [HP.out.length]; omega)] at this
        exact ⟨this.symm, HT.out.2.2.2⟩
      clear HT
      go_wp2
      go_ret
      exact ⟨ret_bool HE.out.1.symm, HE.out.2⟩
theorem allS_drop {f : St → Bool} {l : List St} {k : Nat} {s : St} (h : l[k]? = some s) : (l.drop k).all f = (f s && (l.drop (k + 1)).all f) := by
  rw [dropP h]
  rfl
set_option maxRecDepth 20000 in
set_option maxHeartbeats 1000000 in
theorem rightStates_calls (x : Rc) (da : Option Addr) (dn dc : Nat) (sa : Option Addr) (sn sc : Nat) (ta : Option Addr) (tn tc : Nat) (w : World) (h : RcAt w x da dn sa sn ta tn) :
    Calls Try.prog 27 #[.agg (rcCells x da dn dc sa sn sc ta tn tc)] w fun e w' => e = .returned (.bool (statesR x)) ∧ Below w.heap.size w w' := by
  have hdn := h.defs.short
  have htn := h.states.short
  have HM : Hid (dn ≤ maxLen ∧ tn ≤ maxLen) := ⟨hdn, htn⟩
  have e1 := h.defs.length
  have e2 := h.states.length
  have HB : Hid (Rb w (rcCells x da dn dc sa sn sc ta tn tc) (w.alloc (.cells (rcCells x da dn dc sa sn sc ta tn tc) 26))) := Rb.start w _
  have HS : Hid (StsAt w ta tn x.states) := h.states
  have HN : Hid (statesR x = (decide (tn ≤ 9) && (x.states.drop 0).all (stateB tn dn))) := by show statesR x = _; unfold statesR; rw [e1, e2, List.drop_zero]
  unfold maxLen at hdn htn
  clear h e1 e2
  obtain ⟨R, hR⟩ : ∃ R, statesR x = R := ⟨_, rfl⟩
  rw [hR] at HN ⊢
  clear hR
  obtain ⟨L, defs, subst, beg, fin, front, back, banded, lo, hi, states⟩ := x
  unfold rcCells at HB ⊢
  simp only at HN HB HS ⊢
  by_cases h9 : 9 < tn
  · have k9 : decide ((9 : Int) < (tn : Int)) = true := by simp; omega
    rw [show decide (tn ≤ 9) = false by simp; omega] at HN
    go_enter Try.func27, Try.ntmps27
    go_wp2
    go_ret
    exact ⟨ret_bool (by rw [HN.out]; rfl), HB.out.low⟩
  · have k9 : decide ((9 : Int) < (tn : Int)) = false := by simp; omega
    rw [show decide (tn ≤ 9) = true by simp; omega] at HN
    have HR : Hid ((states.drop 0).all (stateB tn dn) = R) := by rw [HN.out]; rfl
    clear HN
    go_enter Try.func27, Try.ntmps27
    go_wp2
    go_loopw [4, 12] (fun _ iv wr => ∃ (k : Nat), k ≤ tn ∧ iv = .int .i64 k ∧ Hid ((states.drop k).all (stateB tn dn) = R ∧ Rb w #[.int .i64 L, .slice da dn dc, .slice sa sn sc, .int .i64 beg, .int .i64 fin, .int .i64 front, .int .i64 back, .bool banded, .int .i64 lo, .int .i64 hi, .slice ta tn tc] wr)) (fun _ i _ => tn - (intOf i).toNat)
    case atStart => exact ⟨0, Nat.zero_le _, rfl, HR.out, HB.out⟩
    case round =>
      clear HR HB
      obtain ⟨k, hk, rfl, HT⟩ := hrel
      by_cases hlt : k < tn
      · obtain ⟨d, hdi⟩ : ∃ d, states[k]? = some d := ⟨states[k]'(by rw [HS.out.length]; exact hlt), List.getElem?_eq_getElem _⟩
        obtain ⟨b, off, rfl, hcs⟩ := (HS.out.below HT.out.2.low).cells (by omega)
        obtain ⟨ea, en, ec, c1, c2, hpc⟩ := hcs k d hdi
        have hen := hpc.short
        unfold maxLen at hen
        have HE : Hid ((inI d.1 1 3 && edgesB tn dn (-1) d.2 && (states.drop (k + 1)).all (stateB tn dn)) = R) := by
          have := HT.out.1
          rw [allS_drop hdi] at this
          exact this
        obtain ⟨kd, es⟩ := d
        simp only at c1 c2 HE hpc
        have HPC : Hid (PcsAt wr ea en es) := hpc
        have HX : Hid (Rb w #[.int .i64 L, .slice da dn dc, .slice sa sn sc, .int .i64 beg, .int .i64 fin, .int .i64 front, .int .i64 back, .bool banded, .int .i64 lo, .int .i64 hi, .slice (some ⟨b, off, none⟩) tn tc] (wr.alloc (.cells #[.int .i64 kd, .slice ea en ec] 39))) := HT.out.2.alloc _
        have x1 : (wr.alloc (.cells #[.int .i64 kd, .slice ea en ec] 39)).cell? ⟨w.heap.size, 1, none⟩ = some (.slice da dn dc) := blk HX.out.box rfl
        have x10 : (wr.alloc (.cells #[.int .i64 kd, .slice ea en ec] 39)).cell? ⟨w.heap.size, 10, none⟩ = some (.slice (some ⟨b, off, none⟩) tn tc) := blk HX.out.box rfl
        clear hcs hdi hpc
        go_wp2_with fail
        refine (inI_calls kd 1 3 _).mono ?_
        rintro e w1 ⟨rfl, rfl⟩
        cases hr : inI kd 1 3 with
        | false =>
          rw [hr] at HE
          go_wp2
          go_ret
          exact ⟨ret_bool (by rw [← HE.out]; rfl), HX.out.low⟩
        | true =>
          rw [hr] at HE
          clear hr
          go_wp2_with fail
          refine (rightEdges_calls tn dn es ea en ec _ HM.out.2 HM.out.1 (HPC.out.below ((Below.refl _ _).alloc (Nat.le_refl _) _))).mono ?_
          rintro e w2 ⟨rfl, hb2⟩
          have HX2 : Hid (Rb w #[.int .i64 L, .slice da dn dc, .slice sa sn sc, .int .i64 beg, .int .i64 fin, .int .i64 front, .int .i64 back, .bool banded, .int .i64 lo, .int .i64 hi, .slice (some ⟨b, off, none⟩) tn tc] w2) := HX.out.next hb2
          clear hb2 x1 x10 c1 c2
          cases hr2 : edgesB tn dn (-1) es with
          | false =>
            rw [hr2] at HE
            go_wp2
            go_ret
            exact ⟨ret_bool (by rw [← HE.out]; rfl), HX2.out.low⟩
          | true =>
            rw [hr2] at HE
            clear hr2
            go_wp2
            go_roundw
            case rel => exact ⟨k + 1, by omega, by go_num, by rw [← HE.out]; rfl, HX2.out⟩
            case measure => simp [intOf]; omega
      · have HE : Hid (R = true ∧ Below w.heap.size w wr) := by
          have := HT.out.1
          rw [List.drop_eq_nil_of_le (by rw [HS.out.length]; omega)] at this
          exact ⟨this.symm, HT.out.2.low⟩
        clear HT
        go_wp2
        go_ret
        exact ⟨ret_bool HE.out.1.symm, HE.out.2⟩
set_option maxRecDepth 20000 in
set_option maxHeartbeats 1000000 in
theorem rightR_calls (x : Rc) (da : Option Addr) (dn dc : Nat) (sa : Option Addr) (sn sc : Nat) (ta : Option Addr) (tn tc : Nat) (w : World) (h : RcAt w x da dn sa sn ta tn) :
    Calls Try.prog 16 #[.agg (rcCells x da dn dc sa sn sc ta tn tc)] w fun e w' => e = .returned (.bool (rightR x)) ∧ Below w.heap.size w w' := by
  have HB : Hid (Rb w (rcCells x da dn dc sa sn sc ta tn tc) (w.alloc (.cells (rcCells x da dn dc sa sn sc ta tn tc) 26))) := Rb.start w _
  have HS : Hid (RcAt w x da dn sa sn ta tn) := h
  have HN : Hid (rightR x = (decide ((valsB x.defs).2 = 0) && (substR x && (endsR x (valsB x.defs).1 && (bandR x && statesR x))))) := rfl
  have HC1 : Hid (∀ W, Rb w (rcCells x da dn dc sa sn sc ta tn tc) W → Calls Try.prog 24 #[.agg (rcCells x da dn dc sa sn sc ta tn tc)] W fun e w' => e = .returned (.bool (substR x)) ∧ Below W.heap.size W w') := fun W hW => rightSubst_calls x da dn dc sa sn sc ta tn tc W (h.below hW.low)
  have HC2 : Hid (∀ W vo vc, IntA W vo (valsB x.defs).1.length (valsB x.defs).1 → Calls Try.prog 25 #[.agg (rcCells x da dn dc sa sn sc ta tn tc), .slice vo (valsB x.defs).1.length vc] W fun e w' => e = .returned (.bool (endsR x (valsB x.defs).1)) ∧ Below W.heap.size W w') := fun W vo vc hW => rightEnds_calls x da dn dc sa sn sc ta tn tc _ vo _ vc W hW
  have HC3 : Hid (∀ W, Calls Try.prog 26 #[.agg (rcCells x da dn dc sa sn sc ta tn tc)] W fun e w' => e = .returned (.bool (bandR x)) ∧ Below W.heap.size W w') := fun W => rightBand_calls x da dn dc sa sn sc ta tn tc W
  have HC4 : Hid (∀ W, Rb w (rcCells x da dn dc sa sn sc ta tn tc) W → Calls Try.prog 27 #[.agg (rcCells x da dn dc sa sn sc ta tn tc)] W fun e w' => e = .returned (.bool (statesR x)) ∧ Below W.heap.size W w') := fun W hW => rightStates_calls x da dn dc sa sn sc ta tn tc W (h.below hW.low)
  clear h
  have hfew := valsB_few x.defs
  obtain ⟨R, hR⟩ : ∃ R, rightR x = R := ⟨_, rfl⟩
  obtain ⟨S1, hS1⟩ : ∃ R, substR x = R := ⟨_, rfl⟩
  obtain ⟨S2, hS2⟩ : ∃ R, endsR x (valsB x.defs).1 = R := ⟨_, rfl⟩
  obtain ⟨S3, hS3⟩ : ∃ R, bandR x = R := ⟨_, rfl⟩
  obtain ⟨S4, hS4⟩ : ∃ R, statesR x = R := ⟨_, rfl⟩
  rw [hR] at HN ⊢
  rw [hS1] at HN HC1
  rw [hS2] at HN HC2
  rw [hS3] at HN HC3
  rw [hS4] at HN HC4
  clear hR hS1 hS2 hS3 hS4
  obtain ⟨L, defs, subst, beg, fin, front, back, banded, lo, hi, states⟩ := x
  unfold rcCells at HB HC1 HC2 HC3 HC4 ⊢
  simp only at HN HB HS HC1 HC2 HC3 HC4 hfew ⊢
  go_enter Try.func16, Try.ntmps16
  go_wp2_with fail
  refine (values_calls defs da dn dc _ (HS.out.defs.below HB.out.low)).mono ?_
  rintro e w1 ⟨vo, vc, rfl, hown, hb1⟩
  have HX : Hid (Rb w #[.int .i64 L, .slice da dn dc, .slice sa sn sc, .int .i64 beg, .int .i64 fin, .int .i64 front, .int .i64 back, .bool banded, .int .i64 lo, .int .i64 hi, .slice ta tn tc] w1 ∧ IntA w1 vo (valsB defs).1.length (valsB defs).1) := ⟨HB.out.next hb1, intA_own hown rfl (by unfold maxLen; omega)⟩
  clear hown hb1 HB
  have c0 : w1.cell? ⟨w.heap.size, 0, none⟩ = some (.int .i64 L) := blk HX.out.1.box rfl
  have c1 : w1.cell? ⟨w.heap.size, 1, none⟩ = some (.slice da dn dc) := blk HX.out.1.box rfl
  have c2 : w1.cell? ⟨w.heap.size, 2, none⟩ = some (.slice sa sn sc) := blk HX.out.1.box rfl
  have c3 : w1.cell? ⟨w.heap.size, 3, none⟩ = some (.int .i64 beg) := blk HX.out.1.box rfl
  have c4 : w1.cell? ⟨w.heap.size, 4, none⟩ = some (.int .i64 fin) := blk HX.out.1.box rfl
  have c5 : w1.cell? ⟨w.heap.size, 5, none⟩ = some (.int .i64 front) := blk HX.out.1.box rfl
  have c6 : w1.cell? ⟨w.heap.size, 6, none⟩ = some (.int .i64 back) := blk HX.out.1.box rfl
  have c7 : w1.cell? ⟨w.heap.size, 7, none⟩ = some (.bool banded) := blk HX.out.1.box rfl
  have c8 : w1.cell? ⟨w.heap.size, 8, none⟩ = some (.int .i64 lo) := blk HX.out.1.box rfl
  have c9 : w1.cell? ⟨w.heap.size, 9, none⟩ = some (.int .i64 hi) := blk HX.out.1.box rfl
  have c10 : w1.cell? ⟨w.heap.size, 10, none⟩ = some (.slice ta tn tc) := blk HX.out.1.box rfl
  generalize (valsB defs).2 = er at *
  by_cases hz : er = 0
  · subst hz
    have n0 : ((0 : Int) != 0) = false := rfl
    rw [decide_eq_true rfl] at HN
    generalize (valsB defs).1 = vs at *
    go_wp2_with fail
    refine (HC1.out w1 HX.out.1).mono ?_
    rintro e w2 ⟨rfl, hb2⟩
    have HX2 : Hid (Rb w #[.int .i64 L, .slice da dn dc, .slice sa sn sc, .int .i64 beg, .int .i64 fin, .int .i64 front, .int .i64 back, .bool banded, .int .i64 lo, .int .i64 hi, .slice ta tn tc] w2 ∧ IntA w2 vo vs.length vs) := ⟨HX.out.1.next hb2, HX.out.2.below hb2⟩
    clear hb2 HX c0 c1 c2 c3 c4 c5 c6 c7 c8 c9 c10
    cases S1 with
    | false =>
      go_wp2
      go_ret
      exact ⟨ret_bool (by rw [HN.out]; rfl), HX2.out.1.low⟩
    | true =>
      have c0 : w2.cell? ⟨w.heap.size, 0, none⟩ = some (.int .i64 L) := blk HX2.out.1.box rfl
      have c1 : w2.cell? ⟨w.heap.size, 1, none⟩ = some (.slice da dn dc) := blk HX2.out.1.box rfl
      have c2 : w2.cell? ⟨w.heap.size, 2, none⟩ = some (.slice sa sn sc) := blk HX2.out.1.box rfl
      have c3 : w2.cell? ⟨w.heap.size, 3, none⟩ = some (.int .i64 beg) := blk HX2.out.1.box rfl
      have c4 : w2.cell? ⟨w.heap.size, 4, none⟩ = some (.int .i64 fin) := blk HX2.out.1.box rfl
      have c5 : w2.cell? ⟨w.heap.size, 5, none⟩ = some (.int .i64 front) := blk HX2.out.1.box rfl
      have c6 : w2.cell? ⟨w.heap.size, 6, none⟩ = some (.int .i64 back) := blk HX2.out.1.box rfl
      have c7 : w2.cell? ⟨w.heap.size, 7, none⟩ = some (.bool banded) := blk HX2.out.1.box rfl
      have c8 : w2.cell? ⟨w.heap.size, 8, none⟩ = some (.int .i64 lo) := blk HX2.out.1.box rfl
      have c9 : w2.cell? ⟨w.heap.size, 9, none⟩ = some (.int .i64 hi) := blk HX2.out.1.box rfl
      have c10 : w2.cell? ⟨w.heap.size, 10, none⟩ = some (.slice ta tn tc) := blk HX2.out.1.box rfl
      go_wp2_with fail
      refine (HC2.out w2 vo vc HX2.out.2).mono ?_
      rintro e w3 ⟨rfl, hb3⟩
      have HX3 : Hid (Rb w #[.int .i64 L, .slice da dn dc, .slice sa sn sc, .int .i64 beg, .int .i64 fin, .int .i64 front, .int .i64 back, .bool banded, .int .i64 lo, .int .i64 hi, .slice ta tn tc] w3) := HX2.out.1.next hb3
      clear hb3 HX2 c0 c1 c2 c3 c4 c5 c6 c7 c8 c9 c10
      cases S2 with
      | false =>
        go_wp2
        go_ret
        exact ⟨ret_bool (by rw [HN.out]; rfl), HX3.out.low⟩
      | true =>
        have c0 : w3.cell? ⟨w.heap.size, 0, none⟩ = some (.int .i64 L) := blk HX3.out.box rfl
        have c1 : w3.cell? ⟨w.heap.size, 1, none⟩ = some (.slice da dn dc) := blk HX3.out.box rfl
        have c2 : w3.cell? ⟨w.heap.size, 2, none⟩ = some (.slice sa sn sc) := blk HX3.out.box rfl
        have c3 : w3.cell? ⟨w.heap.size, 3, none⟩ = some (.int .i64 beg) := blk HX3.out.box rfl
        have c4 : w3.cell? ⟨w.heap.size, 4, none⟩ = some (.int .i64 fin) := blk HX3.out.box rfl
        have c5 : w3.cell? ⟨w.heap.size, 5, none⟩ = some (.int .i64 front) := blk HX3.out.box rfl
        have c6 : w3.cell? ⟨w.heap.size, 6, none⟩ = some (.int .i64 back) := blk HX3.out.box rfl
        have c7 : w3.cell? ⟨w.heap.size, 7, none⟩ = some (.bool banded) := blk HX3.out.box rfl
        have c8 : w3.cell? ⟨w.heap.size, 8, none⟩ = some (.int .i64 lo) := blk HX3.out.box rfl
        have c9 : w3.cell? ⟨w.heap.size, 9, none⟩ = some (.int .i64 hi) := blk HX3.out.box rfl
        have c10 : w3.cell? ⟨w.heap.size, 10, none⟩ = some (.slice ta tn tc) := blk HX3.out.box rfl
        go_wp2_with fail
        refine (HC3.out w3).mono ?_
        rintro e w4 ⟨rfl, hb4⟩
        have HX4 : Hid (Rb w #[.int .i64 L, .slice da dn dc, .slice sa sn sc, .int .i64 beg, .int .i64 fin, .int .i64 front, .int .i64 back, .bool banded, .int .i64 lo, .int .i64 hi, .slice ta tn tc] w4) := HX3.out.next hb4
        clear hb4 HX3 c0 c1 c2 c3 c4 c5 c6 c7 c8 c9 c10
        cases S3 with
        | false =>
          go_wp2
          go_ret
          exact ⟨ret_bool (by rw [HN.out]; rfl), HX4.out.low⟩
        | true =>
          have c0 : w4.cell? ⟨w.heap.size, 0, none⟩ = some (.int .i64 L) := blk HX4.out.box rfl
          have c1 : w4.cell? ⟨w.heap.size, 1, none⟩ = some (.slice da dn dc) := blk HX4.out.box rfl
          have c2 : w4.cell? ⟨w.heap.size, 2, none⟩ = some (.slice sa sn sc) := blk HX4.out.box rfl
          have c3 : w4.cell? ⟨w.heap.size, 3, none⟩ = some (.int .i64 beg) := blk HX4.out.box rfl
          have c4 : w4.cell? ⟨w.heap.size, 4, none⟩ = some (.int .i64 fin) := blk HX4.out.box rfl
          have c5 : w4.cell? ⟨w.heap.size, 5, none⟩ = some (.int .i64 front) := blk HX4.out.box rfl
          have c6 : w4.cell? ⟨w.heap.size, 6, none⟩ = some (.int .i64 back) := blk HX4.out.box rfl
          have c7 : w4.cell? ⟨w.heap.size, 7, none⟩ = some (.bool banded) := blk HX4.out.box rfl
          have c8 : w4.cell? ⟨w.heap.size, 8, none⟩ = some (.int .i64 lo) := blk HX4.out.box rfl
          have c9 : w4.cell? ⟨w.heap.size, 9, none⟩ = some (.int .i64 hi) := blk HX4.out.box rfl
          have c10 : w4.cell? ⟨w.heap.size, 10, none⟩ = some (.slice ta tn tc) := blk HX4.out.box rfl
          go_wp2_with fail
          refine (HC4.out w4 HX4.out).mono ?_
          rintro e w5 ⟨rfl, hb5⟩
          have HX5 : Hid (Below w.heap.size w w5) := (HX4.out.next hb5).low
          clear hb5 HX4 c0 c1 c2 c3 c4 c5 c6 c7 c8 c9 c10
          go_wp2
          go_ret
          exact ⟨ret_bool (by rw [HN.out]; rfl), HX5.out⟩
  · have n0 : (er != 0) = true := by simpa using hz
    rw [decide_eq_false hz] at HN
    go_wp2
    go_ret
    exact ⟨ret_bool (by rw [HN.out]; rfl), HX.out.1.low⟩
end Go.Proofs.Ytolehoibpnenlab
