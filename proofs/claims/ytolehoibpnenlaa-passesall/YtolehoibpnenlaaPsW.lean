/-
  The document's list of the states that can be come to: its walk.
-/
import Derived.Test.YtolehoibpnenlaaMh
namespace Go.Proofs.Ytolehoibpnenlaa
open Go.RowKit Go.Deep Go.Maps

theorem info4b : (Try.prog.info? 4).map (fun i => (i.zero, i.size, i.bytes)) = some (some (.bool false), 1, 1) := by kernel_rfl
theorem come_cur (x : Rc) (f : List Bool) {i : Nat} {s : St} (h : x.states[i]? = some s) : comeS x f i = curK (barB x s.1) f i s.2 s.2.length := by
  have e : x.states.getD i (0, []) = s := by rw [List.getD_eq_getElem?_getD, h]; rfl
  rw [comeS, curK, List.take_length, e, okS]
theorem made_bl (n : Nat) : (madeCells (Value.bool false).cells (n * 1)).toList = blRow (List.replicate n false) := by
  simp [madeCells, Value.cells, blRow, Nat.mod_one, List.eq_replicate_iff]
set_option maxRecDepth 20000 in
set_option maxHeartbeats 4000000 in
theorem refcome_calls (x : Rc) (da : Option Addr) (dn dc : Nat) (sa : Option Addr) (sn sc : Nat) (ta : Option Addr) (tn tc : Nat) (w : World) (h : RcAt w x da dn sa sn ta tn) (hok : rightR x = true) :
    Calls Try.prog 31 #[.agg (rcCells x da dn dc sa sn sc ta tn tc)] w fun e w' => RowPost 4 1 tn (blRow (foundB x)) w e w' := by
  obtain ⟨i0, hi, hz0, hz1, hz2⟩ := info_parts info4b
  have HOK : Hid (rightR x = true) := hok
  have htn : tn ≤ 9 := by rw [← h.states.length]; exact (right_states hok).1
  have HX : Hid (∀ W, Below w.heap.size w W → RcAt W x da dn sa sn ta tn) := fun W hW => h.below hW
  have HL : Hid (x.defs.length = dn ∧ x.subst.length = sn ∧ x.states.length = tn) := ⟨h.defs.length, h.subst.length, h.states.length⟩
  clear h hok
  unfold rcCells
  go_enter Try.func31, Try.ntmps31
  go_wp2_with (at_make; refine wpList_make_full _ rfl _ _ 53 rfl w.heap.size 4 i0 (.bool false) 1 Try.underlying53 hi hz0 hz1 .i64 .i64 _ _ tn rfl rfl rfl rfl (by rw [hz2]; omega) (by unfold maxLen; omega) (by simp) ?_; intro w2 hown hgrow)
  have HC : Hid (CM w #[.int .i64 x.letters, .slice da dn dc, .slice sa sn sc, .int .i64 x.beg, .int .i64 x.fin, .int .i64 x.front, .int .i64 x.back, .bool x.banded, .int .i64 x.lo, .int .i64 x.hi, .slice ta tn tc] (w.heap.size + 1) tn (comeR x 0) w2) := by
    have hb0 : Below w.heap.size w (w.alloc (.cells #[.int .i64 x.letters, .slice da dn dc, .slice sa sn sc, .int .i64 x.beg, .int .i64 x.fin, .int .i64 x.front, .int .i64 x.back, .bool x.banded, .int .i64 x.lo, .int .i64 x.hi, .slice ta tn tc] 26)) := (Below.refl _ _).alloc (Nat.le_refl _) _
    refine ⟨hb0.grown hgrow hb0.size (fun k hk => by cases hk), ?_, ?_, by rw [comeR, List.length_replicate]; exact HL.out.2.2⟩
    · rw [hgrow.block _ (by simp) (fun e => by cases e)]
      exact heap_alloc_new w _
    · rw [comeR, HL.out.2.2, ← made_bl]
      simpa using hown
  clear hown hgrow
  have c10 : w2.cell? ⟨w.heap.size, 10, none⟩ = some (.slice ta tn tc) := blk HC.out.box rfl
  go_wp2
  clear c10
  go_loopg [4, 5, 6, 7, 8] (tn + 1) (fun q iv _ _ _ _ wr => ∃ (t : Nat), t + q = tn + 1 ∧ iv = .int .i64 t ∧ Hid (CM w #[.int .i64 x.letters, .slice da dn dc, .slice sa sn sc, .int .i64 x.beg, .int .i64 x.fin, .int .i64 x.front, .int .i64 x.back, .bool x.banded, .int .i64 x.lo, .int .i64 x.hi, .slice ta tn tc] (w.heap.size + 1) tn (comeR x t) wr))
  case atStart => exact ⟨0, by omega, rfl, HC.out⟩
  case round =>
    clear HC
    obtain ⟨t, htq, rfl, HQt⟩ := hrel
    obtain ⟨wt, rfl⟩ : ∃ wt, wt = wr := ⟨_, rfl⟩
    obtain ⟨gT, rfl⟩ : ∃ gT, gT = gk := ⟨_, rfl⟩
    have c10 : wt.cell? ⟨w.heap.size, 10, none⟩ = some (.slice ta tn tc) := blk HQt.out.box rfl
    by_cases htl : t ≤ tn
    · have hk0 : decide ((t : Int) ≤ (tn : Int)) = true := by simp; omega
      have HW0 : Hid (CM w #[.int .i64 x.letters, .slice da dn dc, .slice sa sn sc, .int .i64 x.beg, .int .i64 x.fin, .int .i64 x.front, .int .i64 x.back, .bool x.banded, .int .i64 x.lo, .int .i64 x.hi, .slice ta tn tc] (w.heap.size + 1) tn (comeW x (comeR x t) 0) wt) := HQt.out
      clear HQt
      go_wp2
      clear c10
      go_loopg [5, 6, 7, 8] tn (fun q iv _ _ _ wr => ∃ (i : Nat), i + q = tn ∧ iv = .int .i64 i ∧ Hid (CM w #[.int .i64 x.letters, .slice da dn dc, .slice sa sn sc, .int .i64 x.beg, .int .i64 x.fin, .int .i64 x.front, .int .i64 x.back, .bool x.banded, .int .i64 x.lo, .int .i64 x.hi, .slice ta tn tc] (w.heap.size + 1) tn (comeW x (comeR x t) i) wr))
      case atStart => exact ⟨0, by omega, rfl, HW0.out⟩
      case round =>
        clear HW0 hk0
        obtain ⟨i, hiq, rfl, HQi⟩ := hrel
        obtain ⟨wi, rfl⟩ : ∃ wi, wi = wr := ⟨_, rfl⟩
        obtain ⟨gI, rfl⟩ : ∃ gI, gI = gk := ⟨_, rfl⟩
        have c10 : wi.cell? ⟨w.heap.size, 10, none⟩ = some (.slice ta tn tc) := blk HQi.out.box rfl
        by_cases hlt : i < tn
        · obtain ⟨s, hs⟩ : ∃ s, x.states[i]? = some s := ⟨x.states[i]'(by rw [HL.out.2.2]; exact hlt), List.getElem?_eq_getElem _⟩
          obtain ⟨f, hf⟩ : ∃ f, comeW x (comeR x t) i = f := ⟨_, rfl⟩
          obtain ⟨g1, o1, hta, hcs⟩ := (HX.out w (Below.refl _ _)).states.cells (by omega)
          obtain ⟨ea, en, ec, k1, k2, k3⟩ := hcs i s hs
          have hen : en ≤ 100 := by rw [← k3.length]; exact right_edges HOK.out s (List.mem_of_getElem? hs)
          have HG : Hid (comeW x (comeR x t) i = f ∧ x.states[i]? = some s ∧ s.2.length = en) := ⟨hf, hs, k3.length⟩
          rw [hf] at HQi
          have HF : Hid (∀ W, Below w.heap.size w W → W.heap[w.heap.size]? = some (.cells #[.int .i64 x.letters, .slice da dn dc, .slice sa sn sc, .int .i64 x.beg, .int .i64 x.fin, .int .i64 x.front, .int .i64 x.back, .bool x.banded, .int .i64 x.lo, .int .i64 x.hi, .slice ta tn tc] 26 (0, 0)) → W.cell? ⟨w.heap.size, 10, none⟩ = some (.slice (some ⟨g1, o1, none⟩) tn tc) ∧ W.cell? ⟨g1, o1 + i * 2 + 1, none⟩ = some (.slice ea en ec) ∧ PcsAt W ea en s.2) := fun W hW hB => by
            refine ⟨by rw [← hta]; exact blk hB rfl, ?_, k3.below hW⟩
            rw [hW.cell (World.block_lt_of_cell? w _ k2)]; exact k2
          rw [← HQi.out.low.cell (World.block_lt_of_cell? w _ k1)] at k1
          have l1 := (HF.out wi HQi.out.low HQi.out.box).2.1
          obtain ⟨bd, hbd0⟩ : ∃ bd, x.banded = bd := ⟨_, rfl⟩
          have HBd : Hid (x.banded = bd) := hbd0
          have c7 : wi.cell? ⟨w.heap.size, 7, none⟩ = some (.bool bd) := by rw [← hbd0]; exact blk HQi.out.box rfl
          clear hbd0
          have c8 : wi.cell? ⟨w.heap.size, 8, none⟩ = some (.int .i64 x.lo) := blk HQi.out.box rfl
          have c9 : wi.cell? ⟨w.heap.size, 9, none⟩ = some (.int .i64 x.hi) := blk HQi.out.box rfl
          rw [hta] at c10
          clear hs hf hcs k2 k3 hta
          have hk0 : decide ((i : Int) < (tn : Int)) = true := by simp; omega
          have hkd : (i : Int) < (tn : Int) := by omega
          have hcase : s.1 = 1 ∨ (s.1 ≠ 1 ∧ bd = false) ∨ (s.1 ≠ 1 ∧ bd = true ∧ x.lo ≠ x.hi) ∨ (s.1 ≠ 1 ∧ bd = true ∧ x.lo = x.hi) := by
            by_cases h1 : s.1 = 1
            · exact .inl h1
            · cases bd
              · exact .inr (.inl ⟨h1, rfl⟩)
              · by_cases h3 : x.lo = x.hi
                · exact .inr (.inr (.inr ⟨h1, rfl, h3⟩))
                · exact .inr (.inr (.inl ⟨h1, rfl, h3⟩))
          rcases hcase with hs1 | ⟨hs1, rfl⟩ | ⟨hs1, rfl, hlh⟩ | ⟨hs1, rfl, hlh⟩
          · have HFe : Hid (comeW x (comeR x t) i = f ∧ x.states[i]? = some s ∧ s.2.length = en ∧ barB x s.1 = false) := ⟨HG.out.1, HG.out.2.1, HG.out.2.2, by simp [barB, hs1]⟩
            have HC0 : Hid (CM w #[.int .i64 x.letters, .slice da dn dc, .slice sa sn sc, .int .i64 x.beg, .int .i64 x.fin, .int .i64 x.front, .int .i64 x.back, .bool x.banded, .int .i64 x.lo, .int .i64 x.hi, .slice ta tn tc] (w.heap.size + 1) tn (curK false f i s.2 0) wi) := by
              rw [curK_zero _ _ _ _ (by rw [HQi.out.len]; exact hlt)]; exact HQi.out
            clear HQi HG HBd
            go_wp2
            clear c10 k1 l1 c7 c8 c9
            go_loopg [7, 8] en (fun q iv _ wr => ∃ (k : Nat), k + q = en ∧ iv = .int .i64 k ∧ Hid (CM w #[.int .i64 x.letters, .slice da dn dc, .slice sa sn sc, .int .i64 x.beg, .int .i64 x.fin, .int .i64 x.front, .int .i64 x.back, .bool x.banded, .int .i64 x.lo, .int .i64 x.hi, .slice ta tn tc] (w.heap.size + 1) tn (curK false f i s.2 k) wr))
            case atStart => exact ⟨0, by omega, rfl, HC0.out⟩
            case round =>
              clear HC0
              obtain ⟨k, hkq, rfl, HQ⟩ := hrel
              obtain ⟨c10, l1, l2⟩ := HF.out wr HQ.out.low HQ.out.box
              by_cases hkl : k < en
              · obtain ⟨ed, hed⟩ : ∃ ed, s.2[k]? = some ed := ⟨s.2[k]'(by rw [HFe.out.2.2.1]; exact hkl), List.getElem?_eq_getElem _⟩
                obtain ⟨y1, q1, hea, hce⟩ := l2.cells (by omega)
                obtain ⟨d1, d2⟩ := hce k ed hed
                rw [hea] at l1
                have hrc := right_costs HOK.out s (List.mem_of_getElem? HFe.out.2.1) ed (List.mem_of_getElem? hed)
                rw [HL.out.2.2] at hrc
                have HE : Hid (s.2[k]? = some ed ∧ -1 ≤ ed.1 ∧ i < tn ∧ f.length = tn) := ⟨hed, by omega, hlt, by have := HQ.out.len; rw [curK_len] at this; exact this⟩
                obtain ⟨li, fi⟩ := HQ.out.get hlt
                obtain ⟨u0, hu0⟩ : ∃ u, (curK false f i s.2 k).getD i false = u := ⟨_, rfl⟩
                rw [hu0] at li
                have hz0 : decide ((k : Int) < (en : Int)) = true := by simp; omega
                have hzd : (k : Int) < (en : Int) := by omega
                clear hea hce hed l2 d2 hu0
                have HY : Hid (∀ b, b = (decide (ed.1 < 0) || (curK false f i s.2 k).getD ed.1.toNat false) → b = true → Hid (CM w #[.int .i64 x.letters, .slice da dn dc, .slice sa sn sc, .int .i64 x.beg, .int .i64 x.fin, .int .i64 x.front, .int .i64 x.back, .bool x.banded, .int .i64 x.lo, .int .i64 x.hi, .slice ta tn tc] (w.heap.size + 1) tn (curK false f i s.2 (k + 1)) (wr.setCell ⟨w.heap.size + 1, i, none⟩ (.bool true)))) := fun b hb hbt => by
                  have h1 := HQ.out.set i true HE.out.2.2.1
                  have h2 := curK_next (by rw [HE.out.2.2.2]; exact HE.out.2.2.1) HE.out.1 HE.out.2.1 b hb
                  rw [hbt, if_pos rfl] at h2
                  rw [h2]
                  exact h1
                by_cases hneg : ed.1 < 0
                · have HN : Hid (CM w #[.int .i64 x.letters, .slice da dn dc, .slice sa sn sc, .int .i64 x.beg, .int .i64 x.fin, .int .i64 x.front, .int .i64 x.back, .bool x.banded, .int .i64 x.lo, .int .i64 x.hi, .slice ta tn tc] (w.heap.size + 1) tn (curK false f i s.2 (k + 1)) (wr.setCell ⟨w.heap.size + 1, i, none⟩ (.bool true))) := HY.out true (by simp [hneg]) rfl
                  have hm : decide (ed.1 < (0 : Int)) = true := by simp; omega
                  clear HQ HY HE hrc
                  go_wp2
                  go_roundg (gk - 1)
                  case measure => omega
                  case rel => exact ⟨k + 1, by omega, by go_num, HN.out⟩
                · obtain ⟨fn, hfn⟩ : ∃ fn : Nat, ed.1 = (fn : Int) ∧ fn < tn := ⟨ed.1.toNat, by omega, by omega⟩
                  obtain ⟨lf, _⟩ := HQ.out.get hfn.2
                  obtain ⟨b, hb⟩ : ∃ b, (curK false f i s.2 k).getD fn false = b := ⟨_, rfl⟩
                  rw [hb] at lf
                  have HB : Hid (b = (decide (ed.1 < 0) || (curK false f i s.2 k).getD ed.1.toNat false)) := by
                    show _ = _
                    rw [hfn.1, Int.toNat_natCast, hb, decide_eq_false (by omega), Bool.false_or]
                  rw [hfn.1] at d1
                  have hfd : (fn : Int) < (tn : Int) := by omega
                  have hm : decide ((fn : Int) < (0 : Int)) = false := by simp
                  clear hneg hrc hfn hb
                  cases b with
                  | true =>
                    have HN : Hid (CM w #[.int .i64 x.letters, .slice da dn dc, .slice sa sn sc, .int .i64 x.beg, .int .i64 x.fin, .int .i64 x.front, .int .i64 x.back, .bool x.banded, .int .i64 x.lo, .int .i64 x.hi, .slice ta tn tc] (w.heap.size + 1) tn (curK false f i s.2 (k + 1)) (wr.setCell ⟨w.heap.size + 1, i, none⟩ (.bool true))) := HY.out true HB.out rfl
                    clear HQ HY HE HB
                    go_wp2
                    go_roundg (gk - 1)
                    case measure => omega
                    case rel => exact ⟨k + 1, by omega, by go_num, HN.out⟩
                  | false =>
                    have HN : Hid (CM w #[.int .i64 x.letters, .slice da dn dc, .slice sa sn sc, .int .i64 x.beg, .int .i64 x.fin, .int .i64 x.front, .int .i64 x.back, .bool x.banded, .int .i64 x.lo, .int .i64 x.hi, .slice ta tn tc] (w.heap.size + 1) tn (curK false f i s.2 (k + 1)) wr) := by
                      rw [curK_next (by rw [HE.out.2.2.2]; exact HE.out.2.2.1) HE.out.1 HE.out.2.1 false HB.out]
                      exact HQ.out
                    clear HQ HY HE HB
                    go_wp2
                    go_roundg (gk - 1)
                    case measure => omega
                    case rel => exact ⟨k + 1, by omega, by go_num, HN.out⟩
              · have HN : Hid (CM w #[.int .i64 x.letters, .slice da dn dc, .slice sa sn sc, .int .i64 x.beg, .int .i64 x.fin, .int .i64 x.front, .int .i64 x.back, .bool x.banded, .int .i64 x.lo, .int .i64 x.hi, .slice ta tn tc] (w.heap.size + 1) tn (comeW x (comeR x t) (i + 1)) wr) := by
                  rw [comeW, HFe.out.1, come_cur x f HFe.out.2.1, HFe.out.2.2.2, HFe.out.2.2.1, show en = k by omega]
                  exact HQ.out
                have hz0 : decide ((k : Int) < (en : Int)) = false := by simp; omega
                clear HQ
                go_wp2
                go_roundg (gI - 1)
                case measure => omega
                case rel => exact ⟨i + 1, by omega, by go_num, HN.out⟩
          · have hs3 : (s.1 != (1 : Int)) = true := bne_iff_ne.2 hs1
            have HFe : Hid (comeW x (comeR x t) i = f ∧ x.states[i]? = some s ∧ s.2.length = en ∧ barB x s.1 = false) := ⟨HG.out.1, HG.out.2.1, HG.out.2.2, by simp [barB, HBd.out]⟩
            have HC0 : Hid (CM w #[.int .i64 x.letters, .slice da dn dc, .slice sa sn sc, .int .i64 x.beg, .int .i64 x.fin, .int .i64 x.front, .int .i64 x.back, .bool x.banded, .int .i64 x.lo, .int .i64 x.hi, .slice ta tn tc] (w.heap.size + 1) tn (curK false f i s.2 0) wi) := by
              rw [curK_zero _ _ _ _ (by rw [HQi.out.len]; exact hlt)]; exact HQi.out
            clear HQi HG HBd hs1
            go_wp2
            clear c10 k1 l1 c7 c8 c9
            go_loopg [7, 8] en (fun q iv _ wr => ∃ (k : Nat), k + q = en ∧ iv = .int .i64 k ∧ Hid (CM w #[.int .i64 x.letters, .slice da dn dc, .slice sa sn sc, .int .i64 x.beg, .int .i64 x.fin, .int .i64 x.front, .int .i64 x.back, .bool x.banded, .int .i64 x.lo, .int .i64 x.hi, .slice ta tn tc] (w.heap.size + 1) tn (curK false f i s.2 k) wr))
            case atStart => exact ⟨0, by omega, rfl, HC0.out⟩
            case round =>
              clear HC0
              obtain ⟨k, hkq, rfl, HQ⟩ := hrel
              obtain ⟨c10, l1, l2⟩ := HF.out wr HQ.out.low HQ.out.box
              by_cases hkl : k < en
              · obtain ⟨ed, hed⟩ : ∃ ed, s.2[k]? = some ed := ⟨s.2[k]'(by rw [HFe.out.2.2.1]; exact hkl), List.getElem?_eq_getElem _⟩
                obtain ⟨y1, q1, hea, hce⟩ := l2.cells (by omega)
                obtain ⟨d1, d2⟩ := hce k ed hed
                rw [hea] at l1
                have hrc := right_costs HOK.out s (List.mem_of_getElem? HFe.out.2.1) ed (List.mem_of_getElem? hed)
                rw [HL.out.2.2] at hrc
                have HE : Hid (s.2[k]? = some ed ∧ -1 ≤ ed.1 ∧ i < tn ∧ f.length = tn) := ⟨hed, by omega, hlt, by have := HQ.out.len; rw [curK_len] at this; exact this⟩
                obtain ⟨li, fi⟩ := HQ.out.get hlt
                obtain ⟨u0, hu0⟩ : ∃ u, (curK false f i s.2 k).getD i false = u := ⟨_, rfl⟩
                rw [hu0] at li
                have hz0 : decide ((k : Int) < (en : Int)) = true := by simp; omega
                have hzd : (k : Int) < (en : Int) := by omega
                clear hea hce hed l2 d2 hu0
                have HY : Hid (∀ b, b = (decide (ed.1 < 0) || (curK false f i s.2 k).getD ed.1.toNat false) → b = true → Hid (CM w #[.int .i64 x.letters, .slice da dn dc, .slice sa sn sc, .int .i64 x.beg, .int .i64 x.fin, .int .i64 x.front, .int .i64 x.back, .bool x.banded, .int .i64 x.lo, .int .i64 x.hi, .slice ta tn tc] (w.heap.size + 1) tn (curK false f i s.2 (k + 1)) (wr.setCell ⟨w.heap.size + 1, i, none⟩ (.bool true)))) := fun b hb hbt => by
                  have h1 := HQ.out.set i true HE.out.2.2.1
                  have h2 := curK_next (by rw [HE.out.2.2.2]; exact HE.out.2.2.1) HE.out.1 HE.out.2.1 b hb
                  rw [hbt, if_pos rfl] at h2
                  rw [h2]
                  exact h1
                by_cases hneg : ed.1 < 0
                · have HN : Hid (CM w #[.int .i64 x.letters, .slice da dn dc, .slice sa sn sc, .int .i64 x.beg, .int .i64 x.fin, .int .i64 x.front, .int .i64 x.back, .bool x.banded, .int .i64 x.lo, .int .i64 x.hi, .slice ta tn tc] (w.heap.size + 1) tn (curK false f i s.2 (k + 1)) (wr.setCell ⟨w.heap.size + 1, i, none⟩ (.bool true))) := HY.out true (by simp [hneg]) rfl
                  have hm : decide (ed.1 < (0 : Int)) = true := by simp; omega
                  clear HQ HY HE hrc
                  go_wp2
                  go_roundg (gk - 1)
                  case measure => omega
                  case rel => exact ⟨k + 1, by omega, by go_num, HN.out⟩
                · obtain ⟨fn, hfn⟩ : ∃ fn : Nat, ed.1 = (fn : Int) ∧ fn < tn := ⟨ed.1.toNat, by omega, by omega⟩
                  obtain ⟨lf, _⟩ := HQ.out.get hfn.2
                  obtain ⟨b, hb⟩ : ∃ b, (curK false f i s.2 k).getD fn false = b := ⟨_, rfl⟩
                  rw [hb] at lf
                  have HB : Hid (b = (decide (ed.1 < 0) || (curK false f i s.2 k).getD ed.1.toNat false)) := by
                    show _ = _
                    rw [hfn.1, Int.toNat_natCast, hb, decide_eq_false (by omega), Bool.false_or]
                  rw [hfn.1] at d1
                  have hfd : (fn : Int) < (tn : Int) := by omega
                  have hm : decide ((fn : Int) < (0 : Int)) = false := by simp
                  clear hneg hrc hfn hb
                  cases b with
                  | true =>
                    have HN : Hid (CM w #[.int .i64 x.letters, .slice da dn dc, .slice sa sn sc, .int .i64 x.beg, .int .i64 x.fin, .int .i64 x.front, .int .i64 x.back, .bool x.banded, .int .i64 x.lo, .int .i64 x.hi, .slice ta tn tc] (w.heap.size + 1) tn (curK false f i s.2 (k + 1)) (wr.setCell ⟨w.heap.size + 1, i, none⟩ (.bool true))) := HY.out true HB.out rfl
                    clear HQ HY HE HB
                    go_wp2
                    go_roundg (gk - 1)
                    case measure => omega
                    case rel => exact ⟨k + 1, by omega, by go_num, HN.out⟩
                  | false =>
                    have HN : Hid (CM w #[.int .i64 x.letters, .slice da dn dc, .slice sa sn sc, .int .i64 x.beg, .int .i64 x.fin, .int .i64 x.front, .int .i64 x.back, .bool x.banded, .int .i64 x.lo, .int .i64 x.hi, .slice ta tn tc] (w.heap.size + 1) tn (curK false f i s.2 (k + 1)) wr) := by
                      rw [curK_next (by rw [HE.out.2.2.2]; exact HE.out.2.2.1) HE.out.1 HE.out.2.1 false HB.out]
                      exact HQ.out
                    clear HQ HY HE HB
                    go_wp2
                    go_roundg (gk - 1)
                    case measure => omega
                    case rel => exact ⟨k + 1, by omega, by go_num, HN.out⟩
              · have HN : Hid (CM w #[.int .i64 x.letters, .slice da dn dc, .slice sa sn sc, .int .i64 x.beg, .int .i64 x.fin, .int .i64 x.front, .int .i64 x.back, .bool x.banded, .int .i64 x.lo, .int .i64 x.hi, .slice ta tn tc] (w.heap.size + 1) tn (comeW x (comeR x t) (i + 1)) wr) := by
                  rw [comeW, HFe.out.1, come_cur x f HFe.out.2.1, HFe.out.2.2.2, HFe.out.2.2.1, show en = k by omega]
                  exact HQ.out
                have hz0 : decide ((k : Int) < (en : Int)) = false := by simp; omega
                clear HQ
                go_wp2
                go_roundg (gI - 1)
                case measure => omega
                case rel => exact ⟨i + 1, by omega, by go_num, HN.out⟩
          · have hs3 : (s.1 != (1 : Int)) = true := bne_iff_ne.2 hs1
            have hl3 : (x.lo == x.hi) = false := beq_eq_false_iff_ne.2 hlh
            have HFe : Hid (comeW x (comeR x t) i = f ∧ x.states[i]? = some s ∧ s.2.length = en ∧ barB x s.1 = false) := ⟨HG.out.1, HG.out.2.1, HG.out.2.2, by simp [barB, hlh]⟩
            have HC0 : Hid (CM w #[.int .i64 x.letters, .slice da dn dc, .slice sa sn sc, .int .i64 x.beg, .int .i64 x.fin, .int .i64 x.front, .int .i64 x.back, .bool x.banded, .int .i64 x.lo, .int .i64 x.hi, .slice ta tn tc] (w.heap.size + 1) tn (curK false f i s.2 0) wi) := by
              rw [curK_zero _ _ _ _ (by rw [HQi.out.len]; exact hlt)]; exact HQi.out
            clear HQi HG HBd hs1 hlh
            go_wp2
            clear c10 k1 l1 c7 c8 c9
            go_loopg [7, 8] en (fun q iv _ wr => ∃ (k : Nat), k + q = en ∧ iv = .int .i64 k ∧ Hid (CM w #[.int .i64 x.letters, .slice da dn dc, .slice sa sn sc, .int .i64 x.beg, .int .i64 x.fin, .int .i64 x.front, .int .i64 x.back, .bool x.banded, .int .i64 x.lo, .int .i64 x.hi, .slice ta tn tc] (w.heap.size + 1) tn (curK false f i s.2 k) wr))
            case atStart => exact ⟨0, by omega, rfl, HC0.out⟩
            case round =>
              clear HC0
              obtain ⟨k, hkq, rfl, HQ⟩ := hrel
              obtain ⟨c10, l1, l2⟩ := HF.out wr HQ.out.low HQ.out.box
              by_cases hkl : k < en
              · obtain ⟨ed, hed⟩ : ∃ ed, s.2[k]? = some ed := ⟨s.2[k]'(by rw [HFe.out.2.2.1]; exact hkl), List.getElem?_eq_getElem _⟩
                obtain ⟨y1, q1, hea, hce⟩ := l2.cells (by omega)
                obtain ⟨d1, d2⟩ := hce k ed hed
                rw [hea] at l1
                have hrc := right_costs HOK.out s (List.mem_of_getElem? HFe.out.2.1) ed (List.mem_of_getElem? hed)
                rw [HL.out.2.2] at hrc
                have HE : Hid (s.2[k]? = some ed ∧ -1 ≤ ed.1 ∧ i < tn ∧ f.length = tn) := ⟨hed, by omega, hlt, by have := HQ.out.len; rw [curK_len] at this; exact this⟩
                obtain ⟨li, fi⟩ := HQ.out.get hlt
                obtain ⟨u0, hu0⟩ : ∃ u, (curK false f i s.2 k).getD i false = u := ⟨_, rfl⟩
                rw [hu0] at li
                have hz0 : decide ((k : Int) < (en : Int)) = true := by simp; omega
                have hzd : (k : Int) < (en : Int) := by omega
                clear hea hce hed l2 d2 hu0
                have HY : Hid (∀ b, b = (decide (ed.1 < 0) || (curK false f i s.2 k).getD ed.1.toNat false) → b = true → Hid (CM w #[.int .i64 x.letters, .slice da dn dc, .slice sa sn sc, .int .i64 x.beg, .int .i64 x.fin, .int .i64 x.front, .int .i64 x.back, .bool x.banded, .int .i64 x.lo, .int .i64 x.hi, .slice ta tn tc] (w.heap.size + 1) tn (curK false f i s.2 (k + 1)) (wr.setCell ⟨w.heap.size + 1, i, none⟩ (.bool true)))) := fun b hb hbt => by
                  have h1 := HQ.out.set i true HE.out.2.2.1
                  have h2 := curK_next (by rw [HE.out.2.2.2]; exact HE.out.2.2.1) HE.out.1 HE.out.2.1 b hb
                  rw [hbt, if_pos rfl] at h2
                  rw [h2]
                  exact h1
                by_cases hneg : ed.1 < 0
                · have HN : Hid (CM w #[.int .i64 x.letters, .slice da dn dc, .slice sa sn sc, .int .i64 x.beg, .int .i64 x.fin, .int .i64 x.front, .int .i64 x.back, .bool x.banded, .int .i64 x.lo, .int .i64 x.hi, .slice ta tn tc] (w.heap.size + 1) tn (curK false f i s.2 (k + 1)) (wr.setCell ⟨w.heap.size + 1, i, none⟩ (.bool true))) := HY.out true (by simp [hneg]) rfl
                  have hm : decide (ed.1 < (0 : Int)) = true := by simp; omega
                  clear HQ HY HE hrc
                  go_wp2
                  go_roundg (gk - 1)
                  case measure => omega
                  case rel => exact ⟨k + 1, by omega, by go_num, HN.out⟩
                · obtain ⟨fn, hfn⟩ : ∃ fn : Nat, ed.1 = (fn : Int) ∧ fn < tn := ⟨ed.1.toNat, by omega, by omega⟩
                  obtain ⟨lf, _⟩ := HQ.out.get hfn.2
                  obtain ⟨b, hb⟩ : ∃ b, (curK false f i s.2 k).getD fn false = b := ⟨_, rfl⟩
                  rw [hb] at lf
                  have HB : Hid (b = (decide (ed.1 < 0) || (curK false f i s.2 k).getD ed.1.toNat false)) := by
                    show _ = _
                    rw [hfn.1, Int.toNat_natCast, hb, decide_eq_false (by omega), Bool.false_or]
                  rw [hfn.1] at d1
                  have hfd : (fn : Int) < (tn : Int) := by omega
                  have hm : decide ((fn : Int) < (0 : Int)) = false := by simp
                  clear hneg hrc hfn hb
                  cases b with
                  | true =>
                    have HN : Hid (CM w #[.int .i64 x.letters, .slice da dn dc, .slice sa sn sc, .int .i64 x.beg, .int .i64 x.fin, .int .i64 x.front, .int .i64 x.back, .bool x.banded, .int .i64 x.lo, .int .i64 x.hi, .slice ta tn tc] (w.heap.size + 1) tn (curK false f i s.2 (k + 1)) (wr.setCell ⟨w.heap.size + 1, i, none⟩ (.bool true))) := HY.out true HB.out rfl
                    clear HQ HY HE HB
                    go_wp2
                    go_roundg (gk - 1)
                    case measure => omega
                    case rel => exact ⟨k + 1, by omega, by go_num, HN.out⟩
                  | false =>
                    have HN : Hid (CM w #[.int .i64 x.letters, .slice da dn dc, .slice sa sn sc, .int .i64 x.beg, .int .i64 x.fin, .int .i64 x.front, .int .i64 x.back, .bool x.banded, .int .i64 x.lo, .int .i64 x.hi, .slice ta tn tc] (w.heap.size + 1) tn (curK false f i s.2 (k + 1)) wr) := by
                      rw [curK_next (by rw [HE.out.2.2.2]; exact HE.out.2.2.1) HE.out.1 HE.out.2.1 false HB.out]
                      exact HQ.out
                    clear HQ HY HE HB
                    go_wp2
                    go_roundg (gk - 1)
                    case measure => omega
                    case rel => exact ⟨k + 1, by omega, by go_num, HN.out⟩
              · have HN : Hid (CM w #[.int .i64 x.letters, .slice da dn dc, .slice sa sn sc, .int .i64 x.beg, .int .i64 x.fin, .int .i64 x.front, .int .i64 x.back, .bool x.banded, .int .i64 x.lo, .int .i64 x.hi, .slice ta tn tc] (w.heap.size + 1) tn (comeW x (comeR x t) (i + 1)) wr) := by
                  rw [comeW, HFe.out.1, come_cur x f HFe.out.2.1, HFe.out.2.2.2, HFe.out.2.2.1, show en = k by omega]
                  exact HQ.out
                have hz0 : decide ((k : Int) < (en : Int)) = false := by simp; omega
                clear HQ
                go_wp2
                go_roundg (gI - 1)
                case measure => omega
                case rel => exact ⟨i + 1, by omega, by go_num, HN.out⟩
          · have hs3 : (s.1 != (1 : Int)) = true := bne_iff_ne.2 hs1
            have hl3 : (x.lo == x.hi) = true := beq_iff_eq.2 hlh
            have HFe : Hid (comeW x (comeR x t) i = f ∧ x.states[i]? = some s ∧ s.2.length = en ∧ barB x s.1 = true) := ⟨HG.out.1, HG.out.2.1, HG.out.2.2, by simp [barB, hs1, HBd.out, hlh]⟩
            have HC0 : Hid (CM w #[.int .i64 x.letters, .slice da dn dc, .slice sa sn sc, .int .i64 x.beg, .int .i64 x.fin, .int .i64 x.front, .int .i64 x.back, .bool x.banded, .int .i64 x.lo, .int .i64 x.hi, .slice ta tn tc] (w.heap.size + 1) tn (curK true f i s.2 0) wi) := by
              rw [curK_zero _ _ _ _ (by rw [HQi.out.len]; exact hlt)]; exact HQi.out
            clear HQi HG HBd hs1 hlh
            go_wp2
            clear c10 k1 l1 c7 c8 c9
            go_loopg [7, 8] en (fun q iv _ wr => ∃ (k : Nat), k + q = en ∧ iv = .int .i64 k ∧ Hid (CM w #[.int .i64 x.letters, .slice da dn dc, .slice sa sn sc, .int .i64 x.beg, .int .i64 x.fin, .int .i64 x.front, .int .i64 x.back, .bool x.banded, .int .i64 x.lo, .int .i64 x.hi, .slice ta tn tc] (w.heap.size + 1) tn (curK true f i s.2 k) wr))
            case atStart => exact ⟨0, by omega, rfl, HC0.out⟩
            case round =>
              clear HC0
              obtain ⟨k, hkq, rfl, HQ⟩ := hrel
              obtain ⟨c10, l1, l2⟩ := HF.out wr HQ.out.low HQ.out.box
              have HN : Hid (CM w #[.int .i64 x.letters, .slice da dn dc, .slice sa sn sc, .int .i64 x.beg, .int .i64 x.fin, .int .i64 x.front, .int .i64 x.back, .bool x.banded, .int .i64 x.lo, .int .i64 x.hi, .slice ta tn tc] (w.heap.size + 1) tn (comeW x (comeR x t) (i + 1)) wr) := by
                rw [comeW, HFe.out.1, come_cur x f HFe.out.2.1, HFe.out.2.2.2, curK_bar, ← curK_bar f i s.2 k]
                exact HQ.out
              clear HQ
              by_cases hkl : k < en
              · have hz0 : decide ((k : Int) < (en : Int)) = true := by simp; omega
                have hzd : (k : Int) < (en : Int) := by omega
                go_wp2
                go_roundg (gI - 1)
                case measure => omega
                case rel => exact ⟨i + 1, by omega, by go_num, HN.out⟩
              · have hz0 : decide ((k : Int) < (en : Int)) = false := by simp; omega
                go_wp2
                go_roundg (gI - 1)
                case measure => omega
                case rel => exact ⟨i + 1, by omega, by go_num, HN.out⟩
        · have hk0 : decide ((i : Int) < (tn : Int)) = false := by simp; omega
          have HN : Hid (CM w #[.int .i64 x.letters, .slice da dn dc, .slice sa sn sc, .int .i64 x.beg, .int .i64 x.fin, .int .i64 x.front, .int .i64 x.back, .bool x.banded, .int .i64 x.lo, .int .i64 x.hi, .slice ta tn tc] (w.heap.size + 1) tn (comeR x (t + 1)) wi) := by
            have e : comeR x (t + 1) = comeW x (comeR x t) i := by rw [comeR, HL.out.2.2, show i = tn by omega]
            rw [e]; exact HQi.out
          clear HQi
          go_wp2
          go_roundg (gT - 1)
          case measure => omega
          case rel => exact ⟨t + 1, by omega, by go_num, HN.out⟩
    · have hk0 : decide ((t : Int) ≤ (tn : Int)) = false := by simp; omega
      have HN : Hid (wt.ownsRow w.heap.size 4 1 (.slice (some ⟨w.heap.size + 1, 0, none⟩) tn tn) tn (blRow (foundB x)) ∧ Below w.heap.size w wt) := by
        have h1 := HQt.out.row
        rw [show t = x.states.length + 1 by rw [HL.out.2.2]; omega] at h1
        exact ⟨by rw [← come_found]; exact h1, HQt.out.low⟩
      clear HQt
      go_wp2
      go_ret
      exact ⟨_, _, rfl, HN.out.1, HN.out.2⟩
end Go.Proofs.Ytolehoibpnenlaa
