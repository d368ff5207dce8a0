/-
  The walk of the document's Right.
-/
import Derived.Test.YtignpgoicoojiaaDoorRtB
namespace Go.Proofs.YtignpgoicoojiaaDoor
open Go.RowKit

def shapeP (c : Cd) (tn kn n3 rn : Nat) : Prop := 2 ≤ c.letters ∧ c.letters ≤ 20 ∧ 1 ≤ c.planes ∧ c.planes ≤ 10 ∧ 1 ≤ c.regs ∧ c.regs ≤ 16 ∧ 0 ≤ c.most ∧ c.most ≤ 65536 ∧ -65537 ≤ c.lo ∧ c.hi ≤ 65537 ∧ c.lo ≤ c.hi ∧ (tn : Int) = c.letters * c.letters ∧ kn ≤ 100 ∧ n3 ≤ 1000 ∧ rn ≤ 160
theorem right_not {c : Cd} {s : Ls} {w : World} (h : CdAt w c s) (hs : ¬ shapeP c s.t.n s.k.n s.i.n s.r.n) : rightB c = false := by
  cases e : rightB c with
  | false => rfl
  | true =>
    refine absurd ?_ hs
    rw [← h.table.length, ← h.consts.length, ← h.cell.length, ← h.arrows.length]
    simp [rightB, headB, listsB, cellB, arrowsB, allB, inB_iff] at e
    unfold shapeP
    omega
theorem right_is {c : Cd} {s : Ls} {w : World} (h : CdAt w c s) (hs : shapeP c s.t.n s.k.n s.i.n s.r.n) : rightB c = (allB (-1152921504606846976) 1152921504606846976 c.table && allB (-1152921504606846976) 1152921504606846976 c.consts && (c.cell.all fun q => inB 1 8 q.1 && allB 0 65535 [q.2.1, q.2.2.1, q.2.2.2]) && c.arrows.all fun q => allB 0 65535 (q4 q)) := by
  rw [← h.table.length, ← h.consts.length, ← h.cell.length, ← h.arrows.length] at hs
  unfold shapeP at hs
  obtain ⟨h1, h2, h3, h4, h5, h6, h7, h8, h9, h10, h11, h12, h13, h14, h15⟩ := hs
  have e1 : headB c = true := by simp [headB, allB, inB_iff]; omega
  have e2 : decide ((c.table.length : Int) = c.letters * c.letters) = true := by simpa using h12
  have e3 : decide (c.consts.length ≤ 100) = true := by simpa using h13
  have e4 : decide (c.cell.length ≤ 1000) = true := by simpa using h14
  have e5 : decide (c.arrows.length ≤ 160) = true := by simpa using h15
  rw [rightB, e1, listsB, e2, e3, cellB, e4, arrowsB, e5]
  simp only [Bool.true_and]

set_option maxRecDepth 20000 in
set_option maxHeartbeats 2000000 in
theorem rightR_none (c : Cd) (s : Ls) (w : World) (h : CdAt w c s) (hS : ¬ shapeP c s.t.n s.k.n s.i.n s.r.n) :
    Calls Tryd.prog 13 #[.agg (cdCells c s)] w fun e w' => e = .returned (.bool false) ∧ Below w.heap.size w w' := by
  have ht := h.table.short
  have hk := h.consts.short
  have hi1 := h.cell.short
  have hr := h.arrows.short
  unfold maxLen at ht hk hi1 hr
  clear h
  obtain ⟨L, pl, rg, lo, hi, mo, tb, ks, cs, ar⟩ := c
  obtain ⟨⟨ta, tn, tc⟩, ⟨ka, kn, kc⟩, ⟨ia, n3, ic⟩, ⟨ra, rn, rc⟩⟩ := s
  simp only [shapeP] at hS
  have HS : Hid (¬ (2 ≤ L ∧ L ≤ 20 ∧ 1 ≤ pl ∧ pl ≤ 10 ∧ 1 ≤ rg ∧ rg ≤ 16 ∧ 0 ≤ mo ∧ mo ≤ 65536 ∧ -65537 ≤ lo ∧ hi ≤ 65537 ∧ lo ≤ hi ∧ (tn : Int) = L * L ∧ kn ≤ 100 ∧ n3 ≤ 1000 ∧ rn ≤ 160)) := hS
  clear hS
  simp only at ht hk hi1 hr
  simp only [cdCells]
  by_cases a1 : L < 2
  · clear HS
    go_enter Tryd.func13, Tryd.ntmps13
    go_wp2
    go_ret
    exact ⟨rfl, below_new _⟩
  by_cases a2 : 20 < L
  · clear HS
    go_enter Tryd.func13, Tryd.ntmps13
    go_wp2
    go_ret
    exact ⟨rfl, below_new _⟩
  by_cases a3 : pl < 1
  · clear HS
    go_enter Tryd.func13, Tryd.ntmps13
    go_wp2
    go_ret
    exact ⟨rfl, below_new _⟩
  by_cases a4 : 10 < pl
  · clear HS
    go_enter Tryd.func13, Tryd.ntmps13
    go_wp2
    go_ret
    exact ⟨rfl, below_new _⟩
  by_cases a5 : rg < 1
  · clear HS
    go_enter Tryd.func13, Tryd.ntmps13
    go_wp2
    go_ret
    exact ⟨rfl, below_new _⟩
  by_cases a6 : 16 < rg
  · clear HS
    go_enter Tryd.func13, Tryd.ntmps13
    go_wp2
    go_ret
    exact ⟨rfl, below_new _⟩
  by_cases a7 : mo < 0
  · clear HS
    go_enter Tryd.func13, Tryd.ntmps13
    go_wp2
    go_ret
    exact ⟨rfl, below_new _⟩
  by_cases a8 : 65536 < mo
  · clear HS
    go_enter Tryd.func13, Tryd.ntmps13
    go_wp2
    go_ret
    exact ⟨rfl, below_new _⟩
  by_cases a9 : lo < -65537
  · clear HS
    go_enter Tryd.func13, Tryd.ntmps13
    go_wp2
    go_ret
    exact ⟨rfl, below_new _⟩
  by_cases b1 : 65537 < hi
  · clear HS
    go_enter Tryd.func13, Tryd.ntmps13
    go_wp2
    go_ret
    exact ⟨rfl, below_new _⟩
  by_cases b2 : hi < lo
  · clear HS
    go_enter Tryd.func13, Tryd.ntmps13
    go_wp2
    go_ret
    exact ⟨rfl, below_new _⟩
  have hsq := sq_bd (a := L) (by omega) (by omega)
  by_cases b3 : (tn : Int) = L * L
  · have HB3 : Hid ((tn : Int) = L * L) := b3
    have c3 : ((tn : Int) != L * L) = false := by simp [b3]
    clear b3
    by_cases b4 : 100 < kn
    · clear HS
      have d4 : decide ((100 : Int) < (kn : Int)) = true := by simp; omega
      go_enter Tryd.func13, Tryd.ntmps13
      go_wp2
      go_ret
      exact ⟨rfl, below_new _⟩
    have d4 : decide ((100 : Int) < (kn : Int)) = false := by simp; omega
    by_cases b5 : 1000 < n3
    · clear HS
      have d5 : decide ((1000 : Int) < (n3 : Int)) = true := by simp; omega
      go_enter Tryd.func13, Tryd.ntmps13
      go_wp2
      go_ret
      exact ⟨rfl, below_new _⟩
    have d5 : decide ((1000 : Int) < (n3 : Int)) = false := by simp; omega
    by_cases b6 : 160 < rn
    · clear HS
      have d6 : decide ((160 : Int) < (rn : Int)) = true := by simp; omega
      go_enter Tryd.func13, Tryd.ntmps13
      go_wp2
      go_ret
      exact ⟨rfl, below_new _⟩
    exact absurd ⟨by omega, by omega, by omega, by omega, by omega, by omega, by omega, by omega, by omega, by omega, by omega, HB3.out, by omega, by omega, by omega⟩ HS.out
  · have c3 : ((tn : Int) != L * L) = true := by simp [b3]
    clear b3 HS
    go_enter Tryd.func13, Tryd.ntmps13
    go_wp2
    go_ret
    exact ⟨rfl, below_new _⟩

def rowE (l : List Qd) (ok : Qd → Bool) (k : Nat) : Prop := ∀ (j : Nat) (q : Qd), j < k → l[j]? = some q → ok q = true
theorem rowE_next {l : List Qd} {ok : Qd → Bool} {k : Nat} {q : Qd} (h : rowE l ok k) (hq : l[k]? = some q) (ho : ok q = true) : rowE l ok (k + 1) := by
  intro j p hj hp
  by_cases e : j = k
  · subst e; rw [hq] at hp; cases hp; exact ho
  · exact h j p (by omega) hp
def cellP (q : Qd) : Bool := inB 1 8 q.1 && allB 0 65535 [q.2.1, q.2.2.1, q.2.2.2]
def arrP (q : Qd) : Bool := allB 0 65535 (q4 q)

set_option maxRecDepth 20000 in
set_option maxHeartbeats 2000000 in
theorem rightR_shape (c : Cd) (s : Ls) (w : World) (h : CdAt w c s) (hS : shapeP c s.t.n s.k.n s.i.n s.r.n) :
    Calls Tryd.prog 13 #[.agg (cdCells c s)] w fun e w' => e = .returned (.bool (rightB c)) ∧ Below w.heap.size w w' := by
  have hE := right_is h hS
  have ht := h.table.short
  have hk := h.consts.short
  have hi1 := h.cell.short
  have hr := h.arrows.short
  unfold maxLen at ht hk hi1 hr
  have HC : Hid (CdAt w c s) := h
  clear h
  obtain ⟨r1, h1⟩ : ∃ r, allB (-1152921504606846976) 1152921504606846976 c.table = r := ⟨_, rfl⟩
  obtain ⟨r2, h2⟩ : ∃ r, allB (-1152921504606846976) 1152921504606846976 c.consts = r := ⟨_, rfl⟩
  have HE : Hid (rightB c = (r1 && r2 && c.cell.all cellP && c.arrows.all arrP)) := by show _ = _; rw [← h1, ← h2]; exact hE
  have H1 : Hid (allB (-1152921504606846976) 1152921504606846976 c.table = r1) := h1
  have H2 : Hid (allB (-1152921504606846976) 1152921504606846976 c.consts = r2) := h2
  clear h1 h2 hE
  obtain ⟨L, pl, rg, lo, hi, mo, tb, ks, cs, ar⟩ := c
  obtain ⟨⟨ta, tn, tc⟩, ⟨ka, kn, kc⟩, ⟨ia, n3, ic⟩, ⟨ra, rn, rc⟩⟩ := s
  simp only [shapeP] at hS
  simp only at ht hk hi1 hr HE
  obtain ⟨h1, h2, h3, h4, h5, h6, h7, h8, h9, h10, h11, h12, h13, h14, h15⟩ := hS
  have hsq := sq_bd h1 h2
  have c3 : ((tn : Int) != L * L) = false := by simp [h12]
  have a1 : ¬ L < 2 := by omega
  have a2 : ¬ 20 < L := by omega
  have a3 : ¬ pl < 1 := by omega
  have a4 : ¬ 10 < pl := by omega
  have a5 : ¬ rg < 1 := by omega
  have a6 : ¬ 16 < rg := by omega
  have a7 : ¬ mo < 0 := by omega
  have a8 : ¬ 65536 < mo := by omega
  have a9 : ¬ lo < -65537 := by omega
  have b1 : ¬ 65537 < hi := by omega
  have b2 : ¬ hi < lo := by omega
  have d4 : decide ((100 : Int) < (kn : Int)) = false := by simp; omega
  have d5 : decide ((1000 : Int) < (n3 : Int)) = false := by simp; omega
  have d6 : decide ((160 : Int) < (rn : Int)) = false := by simp; omega
  clear h12
  simp only [cdCells]
  go_enter Tryd.func13, Tryd.ntmps13
  go_wp2_with fail
  refine (wide_calls _ _ _ tb _ (HC.out.table.below (below_new _))).mono ?_
  rintro e w1 ⟨rfl, rfl⟩
  rw [show allB (-1152921504606846976) 1152921504606846976 tb = r1 from H1.out]
  go_wp2_with fail
  refine (wide_calls _ _ _ ks _ (HC.out.consts.below (below_new _))).mono ?_
  rintro e w1 ⟨rfl, rfl⟩
  rw [show allB (-1152921504606846976) 1152921504606846976 ks = r2 from H2.out]
  clear a1 a2 a3 a4 a5 a6 a7 a8 a9 b1 b2 c3 d4 d5 d6 h1 h2 h3 h4 h5 h6 h7 h8 h9 h10 h11 hsq H1 H2
  go_wp2
  go_loopw [5, 6, 7, 8] (fun i _ _ _ wr => ∃ k : Nat, k ≤ n3 ∧ i = .int .i64 k ∧ rowE cs cellP k ∧ Bx w (cdCells ⟨L, pl, rg, lo, hi, mo, tb, ks, cs, ar⟩ ⟨⟨ta, tn, tc⟩, ⟨ka, kn, kc⟩, ⟨ia, n3, ic⟩, ⟨ra, rn, rc⟩⟩) wr) (fun i _ _ _ _ => n3 - (intOf i).toNat)
  case atStart => exact ⟨0, Nat.zero_le _, rfl, fun j q hj => by omega, Bx.start _ _⟩
  case round =>
    obtain ⟨k, hk2, rfl, hall, hbx⟩ := hrel
    have HA : Hid (rowE cs cellP k) := hall
    have HX : Hid (Bx w (cdCells ⟨L, pl, rg, lo, hi, mo, tb, ks, cs, ar⟩ ⟨⟨ta, tn, tc⟩, ⟨ka, kn, kc⟩, ⟨ia, n3, ic⟩, ⟨ra, rn, rc⟩⟩) wr) := hbx
    have c8 := hbx.cell 8 (.slice ia n3 ic) rfl
    clear hall hbx
    by_cases hlt : k < n3
    · obtain ⟨q, hq⟩ := get_lt (l := cs) (k := k) (by rw [show cs.length = n3 from HC.out.cell.length]; exact hlt)
      obtain ⟨b, off, hao, hcs⟩ := (HC.out.below HX.out.low).cell.cells (by show 0 < n3; omega)
      simp only at hao
      subst hao
      obtain ⟨c1, c2, c3, c4⟩ := hcs k q hq
      have HG : Hid (cs[k]? = some q) := hq
      clear hcs hq
      obtain ⟨o, x, y, z⟩ := q
      simp only at c1 c2 c3 c4
      obtain ⟨r3, h1⟩ : ∃ r, inB 1 8 o = r := ⟨_, rfl⟩
      obtain ⟨r4, h2⟩ : ∃ r, allB 0 65535 [x, y, z] = r := ⟨_, rfl⟩
      have HR : Hid (cellP (o, x, y, z) = (r3 && r4)) := by show _ = _; rw [← h1, ← h2]; rfl
      have H1 : Hid (inB 1 8 o = r3) := h1
      have H2 : Hid (allB 0 65535 [x, y, z] = r4) := h2
      clear h1 h2
      go_wp2_with fail
      refine (in_calls o 1 8 _).mono ?_
      rintro e w' ⟨rfl, rfl⟩
      rw [H1.out]
      go_wp2_with fail
      refine (fields_calls x y z _).mono ?_
      rintro e w' ⟨rfl, rfl⟩
      rw [H2.out]
      have hbb := fun (o1 : Obj) => HX.out.alloc o1
      have HBB : Hid (∀ o1 : Obj, Bx w (cdCells ⟨L, pl, rg, lo, hi, mo, tb, ks, cs, ar⟩ ⟨⟨ta, tn, tc⟩, ⟨ka, kn, kc⟩, ⟨some ⟨b, off, none⟩, n3, ic⟩, ⟨ra, rn, rc⟩⟩) (wr.alloc o1)) := hbb
      clear hbb
      cases r3
      · go_wp2
        go_ret
        exact ⟨ret_bool (by rw [HE.out, all_bad' (f := cellP) HG.out HR.out]; simp), (HBB.out _).low⟩
      cases r4
      · go_wp2
        go_ret
        exact ⟨ret_bool (by rw [HE.out, all_bad' (f := cellP) HG.out HR.out]; simp), (HBB.out _).low⟩
      · go_wp2
        go_roundw
        case rel => exact ⟨k + 1, by omega, by go_num, rowE_next HA.out HG.out HR.out, HBB.out _⟩
        case measure => simp [intOf]; omega
    · have HCe : Hid (cs.all cellP = true) := all_good' (fun j q hj => HA.out j q (by have := (List.getElem?_eq_some_iff.1 hj).1; rw [show cs.length = n3 from HC.out.cell.length] at this; omega) hj)
      have HE2 : Hid (rightB ⟨L, pl, rg, lo, hi, mo, tb, ks, cs, ar⟩ = (r1 && r2 && ar.all arrP)) := by
        show _ = _
        rw [HE.out, HCe.out, Bool.and_true]
      clear HCe HE HA
      go_wp2
      have HX1 : Hid (Bx w (cdCells ⟨L, pl, rg, lo, hi, mo, tb, ks, cs, ar⟩ ⟨⟨ta, tn, tc⟩, ⟨ka, kn, kc⟩, ⟨ia, n3, ic⟩, ⟨ra, rn, rc⟩⟩) wr) := HX.out
      clear HX c8
      go_loopw [9, 10, 11] (fun i _ _ wr => ∃ k : Nat, k ≤ rn ∧ i = .int .i64 k ∧ rowE ar arrP k ∧ Bx w (cdCells ⟨L, pl, rg, lo, hi, mo, tb, ks, cs, ar⟩ ⟨⟨ta, tn, tc⟩, ⟨ka, kn, kc⟩, ⟨ia, n3, ic⟩, ⟨ra, rn, rc⟩⟩) wr) (fun i _ _ _ => rn - (intOf i).toNat)
      case atStart => exact ⟨0, Nat.zero_le _, rfl, fun j q hj => by omega, HX1.out⟩
      case round =>
        obtain ⟨k5, hk5, rfl, hall, hbx⟩ := hrel
        have HA : Hid (rowE ar arrP k5) := hall
        have HX : Hid (Bx w (cdCells ⟨L, pl, rg, lo, hi, mo, tb, ks, cs, ar⟩ ⟨⟨ta, tn, tc⟩, ⟨ka, kn, kc⟩, ⟨ia, n3, ic⟩, ⟨ra, rn, rc⟩⟩) wr) := hbx
        have c9 := hbx.cell 9 (.slice ra rn rc) rfl
        clear hall hbx
        by_cases hlt5 : k5 < rn
        · obtain ⟨q, hq⟩ := get_lt (l := ar) (k := k5) (by rw [show ar.length = rn from HC.out.arrows.length]; exact hlt5)
          obtain ⟨b, off, hao, hcs⟩ := (HC.out.below HX.out.low).arrows.cells (by show 0 < rn; omega)
          simp only at hao
          subst hao
          obtain ⟨c1, c2, c3, c4⟩ := hcs k5 q hq
          have HG : Hid (ar[k5]? = some q) := hq
          clear hcs hq
          obtain ⟨o, x, y, z⟩ := q
          simp only at c1 c2 c3 c4
          obtain ⟨r3, h1⟩ : ∃ r, allB 0 65535 [o, x, y] = r := ⟨_, rfl⟩
          have HR : Hid (arrP (o, x, y, z) = (r3 && inB 0 65535 z)) := by show _ = _; rw [← h1]; simp [arrP, allB, q4, Bool.and_assoc]
          have H1 : Hid (allB 0 65535 [o, x, y] = r3) := h1
          clear h1
          have HBB : Hid (∀ o1 : Obj, Bx w (cdCells ⟨L, pl, rg, lo, hi, mo, tb, ks, cs, ar⟩ ⟨⟨ta, tn, tc⟩, ⟨ka, kn, kc⟩, ⟨ia, n3, ic⟩, ⟨some ⟨b, off, none⟩, rn, rc⟩⟩) (wr.alloc o1)) := fun o1 => HX.out.alloc o1
          go_wp2_with fail
          refine (fields_calls o x y _).mono ?_
          rintro e w' ⟨rfl, rfl⟩
          rw [H1.out]
          cases r3
          · go_wp2
            go_ret
            exact ⟨ret_bool (by rw [HE2.out, all_bad' (f := arrP) HG.out HR.out]; simp), (HBB.out _).low⟩
          by_cases z1 : z < 0
          · have HR2 : Hid (arrP (o, x, y, z) = false) := by show _ = _; rw [HR.out]; simp [inB]; omega
            go_wp2
            go_ret
            exact ⟨ret_bool (by rw [HE2.out, all_bad' (f := arrP) HG.out HR2.out]; simp), (HBB.out _).low⟩
          by_cases z2 : 65535 < z
          · have HR2 : Hid (arrP (o, x, y, z) = false) := by show _ = _; rw [HR.out]; simp [inB]; omega
            go_wp2
            go_ret
            exact ⟨ret_bool (by rw [HE2.out, all_bad' (f := arrP) HG.out HR2.out]; simp), (HBB.out _).low⟩
          · have HR2 : Hid (arrP (o, x, y, z) = true) := by show _ = _; rw [HR.out]; simp [inB]; omega
            go_wp2
            go_roundw
            case rel => exact ⟨k5 + 1, by omega, by go_num, rowE_next HA.out HG.out HR2.out, HBB.out _⟩
            case measure => simp [intOf]; omega
        · have HCe : Hid (ar.all arrP = true) := all_good' (fun j q hj => HA.out j q (by have := (List.getElem?_eq_some_iff.1 hj).1; rw [show ar.length = rn from HC.out.arrows.length] at this; omega) hj)
          have HE3 : Hid (rightB ⟨L, pl, rg, lo, hi, mo, tb, ks, cs, ar⟩ = (r1 && r2)) := by
            show _ = _
            rw [HE2.out, HCe.out, Bool.and_true]
          cases r1
          · go_wp2
            go_ret
            exact ⟨ret_bool (by rw [HE3.out]; rfl), HX.out.low⟩
          · go_wp2
            go_ret
            exact ⟨ret_bool (by rw [HE3.out]; rfl), HX.out.low⟩
theorem rightR_calls (c : Cd) (s : Ls) (w : World) (h : CdAt w c s) :
    Calls Tryd.prog 13 #[.agg (cdCells c s)] w fun e w' => e = .returned (.bool (rightB c)) ∧ Below w.heap.size w w' := by
  by_cases hS : shapeP c s.t.n s.k.n s.i.n s.r.n
  · exact rightR_shape c s w h hS
  · rw [right_not h hS]; exact rightR_none c s w h hS

end Go.Proofs.YtignpgoicoojiaaDoor
