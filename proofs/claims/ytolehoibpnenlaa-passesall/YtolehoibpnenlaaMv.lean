/-
  Drop. The document's: a state is taken away.
-/
import Derived.Test.YtolehoibpnenlaaMx
import Derived.Test.YtolehoibpnenlaaMu
import Derived.Test.YtolehoibpnenlaaPdH
namespace Go.Proofs.Ytolehoibpnenlaa
open Go.RowKit Go.Deep Go.Maps

theorem sok_edges {nd : Int} {l : List St} (h : SOk nd l) : ∀ s ∈ l, ∀ e ∈ s.2, -1 ≤ e.1 ∧ e.1 ≤ 100 := fun s hs e he => by
  have h1 := h.2 s hs
  simp only [stateB, Bool.and_eq_true] at h1
  have key : ∀ (es : List (Int × Int)) (least : Int), -1 ≤ least → edgesB l.length nd least es = true → ∀ e ∈ es, -1 ≤ e.1 ∧ e.1 ≤ 100 := by
    intro es
    induction es with
    | nil => intro _ _ _ e he; simp at he
    | cons a r ih =>
      intro least hl h2 e he
      simp only [edgesB, Bool.and_eq_true, inI_iff] at h2
      rcases List.mem_cons.1 he with rfl | he
      · have := h.1; omega
      · exact ih (a.1 + 1) (by omega) h2.2 e he
  exact key _ _ (by omega) h1.2 e he
/-- The work, and what is found. -/
structure DrW (w : World) (base wb : Nat) (x : Rc) (vs : List Int) (fg n fc : Nat) (l : List St) (wr : World) : Prop where
  wk : ∃ y, WkAt wr base wb { x with states := l } vs y
  low : Below base w wr
  row : wr.ownsRow w.heap.size 4 1 (.slice (some ⟨fg, 0, none⟩) n fc) n (blRow (foundB x))
  ok : SOk x.defs.length l
set_option maxRecDepth 20000 in
set_option maxHeartbeats 4000000 in
theorem drop_calls (w : World) (base wb : Nat) (x : Rc) (vs : List Int) (y : Ly) (h : WkAt w base wb x vs y) (hr : rightR x = true) :
    Calls Try.prog 36 #[.pointer (some ⟨wb, 0, none⟩)] w fun e w' => e = .returned (.tuple #[]) ∧ (∃ y', WkAt w' base wb (dropB x) vs y') ∧ Below base w w' := by
  obtain ⟨n, hn⟩ : ∃ n, x.states.length = n := ⟨_, rfl⟩
  have hn9 : n ≤ 9 := by rw [← hn]; exact (right_states hr).1
  have HF : Hid (Calls Try.prog 62 #[.pointer (some ⟨wb, 0, none⟩)] w fun e w' => RowPost 4 1 n (blRow (foundB x)) w e w') := by rw [← hn]; exact found_calls w base wb x vs y h hr
  have HW : Hid (WkAt w base wb x vs y ∧ rightR x = true ∧ x.states.length = n ∧ base ≤ w.heap.size) := ⟨h, hr, hn, Nat.le_trans h.fro (Nat.le_of_lt (lt_block h.box))⟩
  clear h hr hn
  go_enter Try.func36, Try.ntmps36
  go_wp2_with fail
  refine HF.out.mono ?_
  rintro e w1 ⟨fo, fc, rfl, ho1, hb1⟩
  have c10 : w1.cell? ⟨wb, 10, none⟩ = some (.slice y.ta n y.tc) := by rw [← HW.out.2.2.1]; exact (HW.out.1.below hb1).cell 10 _ rfl
  by_cases hn0 : n = 0
  · have HE : Hid ((∃ y', WkAt w1 base wb (dropB x) vs y') ∧ Below base w w1) := by
      have e : dropB x = x := by
        rw [dropB, HW.out.2.2.1, hn0]
        rfl
      rw [e]
      exact ⟨⟨_, HW.out.1.below hb1⟩, hb1.mono HW.out.2.2.2⟩
    subst hn0
    clear ho1 hb1 HF
    go_wp2
    go_loopg [3] 1 (fun q sv wr => sv = .int .i64 (-1) ∧ wr = w1)
    case atStart => exact ⟨rfl, rfl⟩
    case round =>
      obtain ⟨rfl, rfl⟩ := hrel
      go_wp2
      go_end0
      exact ⟨rfl, HE.out⟩
  · obtain ⟨fg, hfo⟩ : ∃ fg, fo = some ⟨fg, 0, none⟩ := by
      obtain ⟨fg, cap, hv, _⟩ := owned_some ho1 (by omega)
      injection hv with e1
      exact ⟨fg, e1⟩
    subst hfo
    have HQ0 : Hid (∃ l, dropG (foundB x) n l = dropG (foundB x) n x.states ∧ n ≤ l.length ∧ DrW w base wb x vs fg n fc l w1) :=
      ⟨x.states, rfl, by rw [HW.out.2.2.1]; exact Nat.le_refl _, ⟨_, HW.out.1.below hb1⟩, hb1.mono HW.out.2.2.2, ho1, right_sok HW.out.2.1⟩
    clear ho1 hb1 HF
    go_wp2
    clear c10
    go_loopg [3] n (fun q sv wr => q ≤ n ∧ sv = .int .i64 ((q : Int) - 1) ∧ Hid (∃ l, dropG (foundB x) q l = dropG (foundB x) n x.states ∧ q ≤ l.length ∧ DrW w base wb x vs fg n fc l wr))
    case atStart => exact ⟨Nat.le_refl _, rfl, HQ0.out⟩
    case round =>
      clear HQ0
      obtain ⟨hqn, rfl, HQ⟩ := hrel
      by_cases hq : 0 < gk
      · obtain ⟨j, hj⟩ : ∃ j, gk = j + 1 := ⟨gk - 1, by omega⟩
        subst hj
        have ej : ((j + 1 : Nat) : Int) - 1 = (j : Int) := by omega
        rw [ej]
        clear ej
        obtain ⟨l, hdl, hjl, hdw⟩ := HQ.out
        have cf := (owned_cells hdw.row j _ (blRow_get (foundB x) (by rw [found_len, HW.out.2.2.1]; omega))).1
        have hjn : (j : Int) < (n : Int) := by omega
        have hj0 : decide ((0 : Int) ≤ (j : Int)) = true := by simp
        cases hb : (foundB x).getD j false with
        | true =>
          have HN : Hid (∃ l, dropG (foundB x) j l = dropG (foundB x) n x.states ∧ j ≤ l.length ∧ DrW w base wb x vs fg n fc l wr) := by
            refine ⟨l, ?_, by omega, hdw⟩
            rw [dropG, hb, if_pos rfl] at hdl
            exact hdl
          rw [hb] at cf
          clear hb hdl hjl hdw HQ
          go_wp2
          go_roundg j
          case measure => omega
          case rel => exact ⟨by omega, rfl, HN.out⟩
        | false =>
          rw [dropG, hb, if_neg (by decide)] at hdl
          rw [hb] at cf
          obtain ⟨y2, hy2⟩ := hdw.wk
          have HT : Hid (Calls Try.prog 61 #[.pointer (some ⟨wb, 0, none⟩), .int .i64 (j : Int)] wr fun e w' => e = .returned (.tuple #[]) ∧ (∃ y', WkAt w' base wb { x with states := takeB j l } vs y') ∧ Below base wr w' ∧ Kp wr w') :=
            take_calls wr base wb j { x with states := l } vs y2 hy2 (Nat.le_trans HW.out.2.2.2 hdw.low.size) hdw.ok.1 (by show j < l.length; omega) (sok_edges hdw.ok)
          have HD : Hid (dropG (foundB x) j (takeB j l) = dropG (foundB x) n x.states ∧ j + 1 ≤ l.length ∧ DrW w base wb x vs fg n fc l wr) := ⟨hdl, hjl, hdw⟩
          clear hb hdl hjl hdw hy2 HQ
          go_wp2_with fail
          refine HT.out.mono ?_
          rintro e w2 ⟨rfl, hy3, hb2, hk2⟩
          have HN : Hid (∃ l, dropG (foundB x) j l = dropG (foundB x) n x.states ∧ j ≤ l.length ∧ DrW w base wb x vs fg n fc l w2) := by
            obtain ⟨h1, h2, h3⟩ := HD.out
            exact ⟨takeB j l, h1, by rw [takeB_len j l (by omega)]; omega, hy3, h3.low.trans hb2, hk2.own h3.row (by decide) (by decide) (by decide), takeB_ok h3.ok (by omega)⟩
          clear hy3 hb2 hk2 HT HD cf
          go_wp2
          go_roundg j
          case measure => omega
          case rel => exact ⟨by omega, rfl, HN.out⟩
      · obtain rfl : gk = 0 := by omega
        have HE : Hid ((∃ y', WkAt wr base wb (dropB x) vs y') ∧ Below base w wr) := by
          obtain ⟨l, h1, _, h2⟩ := HQ.out
          refine ⟨?_, h2.low⟩
          rw [dropB, HW.out.2.2.1, ← h1]
          exact h2.wk
        clear HQ
        go_wp2
        go_end0
        exact ⟨rfl, HE.out⟩
theorem drpP_ok : PassOk drpP := by
  refine ⟨enters_of Try.func36 (by kernel_rfl) rfl, fun w base wb x vs y h hr _ => drop_calls w base wb x vs y h hr, fun x vs hr hv => ⟨drop_right hr, hv⟩⟩
end Go.Proofs.Ytolehoibpnenlaa
namespace Go.Proofs.Ytolehoibpnenlaa
open Go.RowKit Go.Deep Go.Maps

/-- What is told so far. -/
structure WtO (w : World) (cs : Array Value) (ob : Nat) (x : Rc) (da2 : Option Addr) (dc2 : Nat) (sa2 : Option Addr) (sc2 : Nat) (tt : Option Addr) (tcc : Nat) (sl : List Sr) (L : List St) (wr : World) : Prop where
  d5 : D5 w cs wr
  ob2 : w.heap.size + 2 ≤ ob
  out : wr.heap[ob]? = some (.cells (rcCells { x with states := L } da2 x.defs.length dc2 sa2 x.subst.length sc2 tt L.length tcc) 26 (0, 0))
  cp : CpO wr w.heap.size { x with states := L } da2 dc2 sa2 sc2 tt tcc sl
section
variable {w : World} {cs : Array Value} {ob : Nat} {x : Rc} {da2 : Option Addr} {dc2 : Nat} {sa2 : Option Addr} {sc2 : Nat} {tt : Option Addr} {tcc : Nat} {sl : List Sr} {L : List St} {wr : World}
theorem WtO.next (h : WtO w cs ob x da2 dc2 sa2 sc2 tt tcc sl L wr) {w2 : World} (hb : Below wr.heap.size wr w2) : WtO w cs ob x da2 dc2 sa2 sc2 tt tcc sl L w2 :=
  ⟨h.d5.next hb h.d5.sz, h.ob2, by rw [hb.block _ (lt_block h.out)]; exact h.out, h.cp.below hb⟩
theorem WtO.push (h : WtO w cs ob x da2 dc2 sa2 sc2 tt tcc sl L wr) {kd : Int} {es : List (Int × Int)} {fa : Option Addr} {fm fc : Nat} (hm : fm = es.length) (hr : wr.ownsRow w.heap.size 49 2 (.slice fa fm fc) fm (pcRow es))
    (hn : ∀ (j : Nat) (r' : Sr) (a : Addr), sl[j]? = some r' → r'.2.1 = some a → fa ≠ some a) {w2 : World} {tt2 : Option Addr} {tcc2 : Nat} (hg : wr.grownBy w2 (Value.slice tt L.length tcc).ownBlock) (ho : w2.ownsRow w.heap.size 39 2 (.slice tt2 (L.length + 1) tcc2) (L.length + 1) (srRow sl ++ srCells (kd, fa, fm, fc))) :
    WtO w cs ob x da2 dc2 sa2 sc2 tt2 tcc2 (sl ++ [(kd, fa, fm, fc)]) (L ++ [(kd, es)]) (w2.setCell ⟨ob, 10, none⟩ (.slice tt2 (L.length + 1) tcc2)) := by
  have hst := h.cp.states
  simp only at hst
  have hbl : ∀ k, k < wr.heap.size → (∀ cs, wr.heap[k]? ≠ some (Obj.cells cs 39 (0, 0))) → w2.heap[k]? = wr.heap[k]? := fun k hk hne => hg.block k hk (fun e => by
    rcases hst.2 with ⟨hv, _⟩ | ⟨g', cap', cur', hv, _, hg', _⟩
    · rw [hv] at e; cases e
    · rw [hv] at e
      simp [Value.ownBlock] at e
      subst e
      exact hne _ hg')
  have hob : w2.heap[ob]? = _ := (hbl ob (lt_block h.out) (fun cs e => by rw [h.out] at e; cases e)).trans h.out
  have hg2 := grown_set w2 ob 10 (.slice tt2 (L.length + 1) tcc2)
  have hsz := h.d5.sz
  have hB : Below (w.heap.size + 2) wr w2 := ⟨hg.os, hg.tape, hg.output, hg.size, fun k hk => by
    by_cases hk1 : k < w.heap.size
    · exact hg.block k (by omega) (fun e => by have := (hst.lt k e.symm).1; omega)
    · by_cases hk2 : k = w.heap.size
      · subst hk2
        exact hbl _ (by omega) (fun cs e => by rw [h.d5.box] at e; cases e)
      · obtain rfl : k = w.heap.size + 1 := by omega
        exact hbl _ (by omega) (fun cs e => by rw [h.d5.res] at e; cases e)⟩
  have hbx : ∀ k, k < w.heap.size + 2 → (w2.setCell ⟨ob, 10, none⟩ (.slice tt2 (L.length + 1) tcc2)).heap[k]? = w2.heap[k]? := fun k hk => hg2.block k (by have := hg.size; omega) (fun e => by injection e with e; have := h.ob2; omega)
  have key : ∀ {e : TypeId} {size : Nat} {v : Value} {m : Nat} {xs : List Value}, e ≠ 39 → e ≠ 26 → wr.ownsRow w.heap.size e size v m xs → (w2.setCell ⟨ob, 10, none⟩ (.slice tt2 (L.length + 1) tcc2)).ownsRow w.heap.size e size v m xs := fun h1 h2 hx => own_kind (owned_grown hx hst h1 hg) hob h2 hg2
  refine ⟨?_, h.ob2, ?_, ⟨key (by decide) (by decide) h.cp.defs, key (by decide) (by decide) h.cp.subst, ?_, ?_, h.cp.apart.snoc hn⟩⟩
  · have hd := h.d5.next hB (Nat.le_refl _)
    exact ⟨hd.low.setCell (by have := h.ob2; show w.heap.size ≤ ob; omega) _, by rw [hbx _ (by omega)]; exact hd.box, by rw [hbx _ (by omega)]; exact hd.res⟩
  · rw [heap_set _ hob]
    simp [rcCells]
  · simp only [List.length_append, List.length_singleton]
    rw [show srRow (sl ++ [(kd, fa, fm, fc)]) = srRow sl ++ srCells (kd, fa, fm, fc) by simp [srRow]]
    exact own_kind ho hob (by decide) hg2
  · have h1 := h.cp.rows.snoc (k := kd) hm hr
    exact ⟨h1.1, fun i r s hi hs => ⟨(h1.2 i r s hi hs).1, (h1.2 i r s hi hs).2.1, key (by decide) (by decide) (h1.2 i r s hi hs).2.2⟩⟩
end
/-- A state that is put together: its box, its row. -/
structure WtI (w0 : World) (kd : Int) (es : List (Int × Int)) (fa : Option Addr) (fm fc : Nat) (wr : World) : Prop where
  low : Below w0.heap.size w0 wr
  box : wr.heap[w0.heap.size]? = some (.cells #[.int .i64 kd, .slice fa fm fc] 39 (0, 0))
  row : wr.ownsRow w0.heap.size 49 2 (.slice fa fm fc) fm (pcRow es)
  len : fm = es.length
section
variable {w0 : World} {kd : Int} {es : List (Int × Int)} {fa : Option Addr} {fm fc : Nat} {wr : World}
theorem WtI.next (h : WtI w0 kd es fa fm fc wr) {w2 : World} (hb : Below wr.heap.size wr w2) : WtI w0 kd es fa fm fc w2 :=
  ⟨h.low.trans (hb.mono h.low.size), by rw [hb.block _ (lt_block h.box)]; exact h.box, owned_below h.row hb, h.len⟩
theorem WtI.push (h : WtI w0 kd es fa fm fc wr) {e : Int × Int} {w2 : World} {fa2 : Option Addr} {fc2 : Nat} (hg : wr.grownBy w2 (Value.slice fa fm fc).ownBlock) (ho : w2.ownsRow w0.heap.size 49 2 (.slice fa2 (fm + 1) fc2) (fm + 1) (pcRow es ++ pcCells e)) :
    WtI w0 kd (es ++ [e]) fa2 (fm + 1) fc2 (w2.setCell ⟨w0.heap.size, 1, none⟩ (.slice fa2 (fm + 1) fc2)) := by
  have hbx : w2.heap[w0.heap.size]? = _ := (hg.block _ (lt_block h.box) (fun e => by
    rcases h.row.2 with ⟨hv, _⟩ | ⟨g', cap', cur', hv, _, hg', _⟩
    · rw [hv] at e; cases e
    · rw [hv] at e
      simp [Value.ownBlock] at e
      have := h.box
      rw [e, hg'] at this
      cases this)).trans h.box
  have hB : Below w0.heap.size w0 w2 := h.low.trans ⟨hg.os, hg.tape, hg.output, hg.size, fun k hk => hg.block k (by have := h.low.size; omega) (fun e => by have := (h.row.lt k e.symm).1; omega)⟩
  refine ⟨hB.setCell (Nat.le_refl _) _, ?_, ?_, by rw [List.length_append, h.len]; rfl⟩
  · rw [heap_set _ hbx]; rfl
  · rw [show pcRow (es ++ [e]) = pcRow es ++ pcCells e by simp [pcRow]]
    exact own_kind ho hbx (by decide) (grown_set _ _ _ _)
end
theorem pc_new (W : World) (e : Int × Int) : SrcAt (W.alloc (.cells #[.int .i64 e.1, .int .i64 e.2] 49)) (some ⟨W.heap.size, 0, none⟩) 1 2 (pcCells e) := by
  refine ⟨rfl, fun u hu => ?_, .inr ⟨_, rfl, cells_new W (pcCells e) 49⟩⟩
  simp [pcCells] at hu
  rcases hu with rfl | rfl <;> rfl

set_option maxRecDepth 20000 in
set_option maxHeartbeats 8000000 in
theorem refwo_calls (x : Rc) (da : Option Addr) (dn dc : Nat) (sa : Option Addr) (sn sc : Nat) (ta : Option Addr) (tn tc : Nat) (w : World) (h : RcAt w x da dn sa sn ta tn) (hb : RcB x) (hok : SOk x.defs.length x.states) (he : ∀ s ∈ x.states, s.2.length ≤ 100) (g : Nat) :
    Calls Try.prog 30 #[.agg (rcCells x da dn dc sa sn sc ta tn tc), .int .i64 (g : Int)] w fun e w' => ∃ da2 dc2 sa2 sc2 ta2 tc2 sl, e = .returned (.agg (rcCells { x with states := takeB g x.states } da2 x.defs.length dc2 sa2 x.subst.length sc2 ta2 (takeB g x.states).length tc2)) ∧ Below w.heap.size w w' ∧ CpO w' w.heap.size { x with states := takeB g x.states } da2 dc2 sa2 sc2 ta2 tc2 sl := by
  have hres : Try.f30.results = #[.cell 4 26] := by kernel_rfl
  obtain ⟨i39, hi39, hz390, hz391, hz392⟩ := info_parts info52
  obtain ⟨i49, hi49, hz490, hz491, hz492⟩ := info_parts info54
  have HR : Hid (RcAt w x da dn sa sn ta tn ∧ SOk x.defs.length x.states ∧ ∀ s ∈ x.states, s.2.length ≤ 100) := ⟨h, hok, he⟩
  have htn : tn ≤ 9 := by rw [← h.states.length]; exact hok.1
  have HL : Hid (x.defs.length = dn ∧ x.subst.length = sn ∧ x.states.length = tn) := ⟨h.defs.length, h.subst.length, h.states.length⟩
  have HB0 : Hid (D5 w (rcCells x da dn dc sa sn sc ta tn tc) ((w.alloc (.cells (rcCells x da dn dc sa sn sc ta tn tc) 26)).alloc (.cells #[.int .i64 0, .slice none 0 0, .slice none 0 0, .int .i64 0, .int .i64 0, .int .i64 0, .int .i64 0, .bool false, .int .i64 0, .int .i64 0, .slice none 0 0] 26))) := D5.start _ _
  have HC : Hid (∀ W, Below w.heap.size w W → Calls Try.prog 27 #[.agg (rcCells x da dn dc sa sn sc ta tn tc)] W fun e w' => ∃ da2 dc2 sa2 sc2 ta2 tc2 sl, e = .returned (.agg (rcCells x da2 x.defs.length dc2 sa2 x.subst.length sc2 ta2 x.states.length tc2)) ∧ Below W.heap.size W w' ∧ CpO w' W.heap.size x da2 dc2 sa2 sc2 ta2 tc2 sl) := fun W hW => copyR_calls x da dn dc sa sn sc ta tn tc W (h.below hW) hb
  clear h hb hok he
  rw [HL.out.1, HL.out.2.1, HL.out.2.2] at HC
  rw [HL.out.1, HL.out.2.1]
  unfold rcCells at HB0 HC ⊢
  simp only
  go_enter Try.func30, Try.ntmps30
  go_wp2_with fail
  refine (HC.out _ HB0.out.low).mono ?_
  rintro e w1 ⟨da2, dc2, sa2, sc2, ta2, tc2, sl2, rfl, hb1, hcp1⟩
  go_upto_region 2 with (fail)
  obtain ⟨ob, hob⟩ : ∃ ob, w1.heap.size = ob := ⟨_, rfl⟩
  obtain ⟨w2, hw2⟩ : ∃ w2, w2 = w1.alloc (.cells #[.int .i64 x.letters, .slice da2 dn dc2, .slice sa2 sn sc2, .int .i64 x.beg, .int .i64 x.fin, .int .i64 x.front, .int .i64 x.back, .bool x.banded, .int .i64 x.lo, .int .i64 x.hi, .slice ta2 tn tc2] 26) := ⟨_, rfl⟩
  rw [hob, ← hw2]
  have HB1 : Hid (D5 w #[.int .i64 x.letters, .slice da dn dc, .slice sa sn sc, .int .i64 x.beg, .int .i64 x.fin, .int .i64 x.front, .int .i64 x.back, .bool x.banded, .int .i64 x.lo, .int .i64 x.hi, .slice ta tn tc] w2 ∧ w2.heap[ob]? = some (.cells #[.int .i64 x.letters, .slice da2 dn dc2, .slice sa2 sn sc2, .int .i64 x.beg, .int .i64 x.fin, .int .i64 x.front, .int .i64 x.back, .bool x.banded, .int .i64 x.lo, .int .i64 x.hi, .slice ta2 tn tc2] 26 (0, 0)) ∧ w.heap.size + 2 ≤ ob ∧ w2.ownsRow w.heap.size 36 4 (.slice da2 dn dc2) dn (dfRow x.defs) ∧ w2.ownsRow w.heap.size 3 1 (.slice sa2 sn sc2) sn (itRow x.subst)) := by
    have hd1 : D5 w #[.int .i64 x.letters, .slice da dn dc, .slice sa sn sc, .int .i64 x.beg, .int .i64 x.fin, .int .i64 x.front, .int .i64 x.back, .bool x.banded, .int .i64 x.lo, .int .i64 x.hi, .slice ta tn tc] w1 := HB0.out.next hb1 (by simp)
    have hb2 : Below w1.heap.size w1 w2 := by rw [hw2]; exact (Below.refl _ _).alloc (Nat.le_refl _) _
    have hl : w.heap.size ≤ ((w.alloc (.cells #[.int .i64 x.letters, .slice da dn dc, .slice sa sn sc, .int .i64 x.beg, .int .i64 x.fin, .int .i64 x.front, .int .i64 x.back, .bool x.banded, .int .i64 x.lo, .int .i64 x.hi, .slice ta tn tc] 26)).alloc (.cells #[.int .i64 0, .slice none 0 0, .slice none 0 0, .int .i64 0, .int .i64 0, .int .i64 0, .int .i64 0, .bool false, .int .i64 0, .int .i64 0, .slice none 0 0] 26)).heap.size := by simp; omega
    have h1 := owned_base (owned_below hcp1.defs hb2) hl
    have h2 := owned_base (owned_below hcp1.subst hb2) hl
    rw [HL.out.1] at h1
    rw [HL.out.2.1] at h2
    refine ⟨hd1.next hb2 hd1.sz, by rw [hw2, ← hob]; exact heap_alloc_new w1 _, by rw [← hob]; exact hd1.sz, h1, h2⟩
  clear hb1 hcp1 hob hw2 HB0 HC
  have o10 : w2.cell? ⟨ob, 10, none⟩ = some (.slice ta2 tn tc2) := blk HB1.out.2.1 rfl
  have f10 : w2.frozen? ⟨ob, 10, none⟩ = false := frozen_of_row w2 _ 10 _ _ HB1.out.2.1
  go_upto_region 3 with (fail)
  obtain ⟨w3, hw3⟩ : ∃ w3, w3 = w2.setCell ⟨ob, 10, none⟩ (.slice none 0 0) := ⟨_, rfl⟩
  rw [← hw3]
  have HQ0 : Hid (∃ (tt : Option Addr) (tcc : Nat) (sl : List Sr), WtO w #[.int .i64 x.letters, .slice da dn dc, .slice sa sn sc, .int .i64 x.beg, .int .i64 x.fin, .int .i64 x.front, .int .i64 x.back, .bool x.banded, .int .i64 x.lo, .int .i64 x.hi, .slice ta tn tc] ob x da2 dc2 sa2 sc2 tt tcc sl (takeB g (x.states.take 0)) w3) := by
    obtain ⟨h1, h2, h3, h4, h5⟩ := HB1.out
    have hg := grown_set w2 ob 10 (.slice none 0 0)
    rw [takeB_zero]
    refine ⟨none, 0, [], ⟨h1.low.grown (row := some ob) (by rw [hw3]; exact hg) h1.low.size (fun k hk => by cases hk; omega), ?_, ?_⟩, h3, ?_, ⟨?_, ?_, none_row _ _ _ _, ⟨rfl, fun i r s hi => by simp at hi⟩, fun i j r r' a hij hi => by simp at hi⟩⟩
    · rw [hw3, hg.block _ (lt_block h1.box) (fun e => by injection e with e; omega)]; exact h1.box
    · rw [hw3, hg.block _ (lt_block h1.res) (fun e => by injection e with e; omega)]; exact h1.res
    · rw [hw3, heap_set _ h2, HL.out.1, HL.out.2.1]; rfl
    · rw [hw3]; simp only; rw [HL.out.1]; exact own_kind h4 h2 (by decide) hg
    · rw [hw3]; simp only; rw [HL.out.2.1]; exact own_kind h5 h2 (by decide) hg
  clear HB1 o10 f10 hw3
  go_wp2
  go_loopg [6, 7, 8, 9] tn (fun q iv _ _ _ wr => ∃ (i : Nat), i + q = tn ∧ iv = .int .i64 i ∧ Hid (∃ (tt : Option Addr) (tcc : Nat) (sl : List Sr), WtO w #[.int .i64 x.letters, .slice da dn dc, .slice sa sn sc, .int .i64 x.beg, .int .i64 x.fin, .int .i64 x.front, .int .i64 x.back, .bool x.banded, .int .i64 x.lo, .int .i64 x.hi, .slice ta tn tc] ob x da2 dc2 sa2 sc2 tt tcc sl (takeB g (x.states.take i)) wr))
  case atStart => exact ⟨0, by omega, rfl, HQ0.out⟩
  case round =>
    clear HQ0
    obtain ⟨i, hiq, rfl, HQ⟩ := hrel
    obtain ⟨wi, rfl⟩ : ∃ wi, wi = wr := ⟨_, rfl⟩
    obtain ⟨gI, rfl⟩ : ∃ gI, gI = gk := ⟨_, rfl⟩
    obtain ⟨tt, tcc, sl, hq⟩ := HQ.out
    have HW : Hid (WtO w #[.int .i64 x.letters, .slice da dn dc, .slice sa sn sc, .int .i64 x.beg, .int .i64 x.fin, .int .i64 x.front, .int .i64 x.back, .bool x.banded, .int .i64 x.lo, .int .i64 x.hi, .slice ta tn tc] ob x da2 dc2 sa2 sc2 tt tcc sl (takeB g (x.states.take i)) wi) := hq
    clear hq HQ
    have c10 : wi.cell? ⟨w.heap.size, 10, none⟩ = some (.slice ta tn tc) := blk HW.out.d5.box rfl
    by_cases hlt : i < tn
    · obtain ⟨s, hs⟩ : ∃ s, x.states[i]? = some s := ⟨x.states[i]'(by rw [HL.out.2.2]; exact hlt), List.getElem?_eq_getElem _⟩
      have hk0 : decide ((i : Int) < (tn : Int)) = true := by simp; omega
      have hkd : (i : Int) < (tn : Int) := by omega
      have hts := takeB_snoc g x.states hs
      by_cases hig : i = g
      · have HN : Hid (∃ (tt : Option Addr) (tcc : Nat) (sl : List Sr), WtO w #[.int .i64 x.letters, .slice da dn dc, .slice sa sn sc, .int .i64 x.beg, .int .i64 x.fin, .int .i64 x.front, .int .i64 x.back, .bool x.banded, .int .i64 x.lo, .int .i64 x.hi, .slice ta tn tc] ob x da2 dc2 sa2 sc2 tt tcc sl (takeB g (x.states.take (i + 1))) wi) := by
          rw [hts, if_pos hig, List.append_nil]
          exact ⟨tt, tcc, sl, HW.out⟩
        have hie : ((i : Int) == (g : Int)) = true := beq_iff_eq.2 (by omega)
        clear HW hs hts hig
        go_wp2
        go_roundg (gI - 1)
        case measure => omega
        case rel => exact ⟨i + 1, by omega, by go_num, HN.out⟩
      · have hie : ((i : Int) == (g : Int)) = false := beq_eq_false_iff_ne.2 (by omega)
        rw [if_neg hig] at hts
        obtain ⟨g1, o1, hta, hcs⟩ := HR.out.1.states.cells (by omega)
        obtain ⟨ea, en, ec, k1, k2, k3⟩ := hcs i s hs
        have hen : en ≤ 100 := by rw [← k3.length]; exact HR.out.2.2 s (List.mem_of_getElem? hs)
        have HF : Hid (∀ W, D5 w #[.int .i64 x.letters, .slice da dn dc, .slice sa sn sc, .int .i64 x.beg, .int .i64 x.fin, .int .i64 x.front, .int .i64 x.back, .bool x.banded, .int .i64 x.lo, .int .i64 x.hi, .slice ta tn tc] W → W.cell? ⟨w.heap.size, 10, none⟩ = some (.slice (some ⟨g1, o1, none⟩) tn tc) ∧ W.cell? ⟨g1, o1 + i * 2 + 1, none⟩ = some (.slice ea en ec) ∧ PcsAt W ea en s.2) := fun W hW => by
          refine ⟨by rw [← hta]; exact blk hW.box rfl, ?_, k3.below hW.low⟩
          rw [hW.low.cell (World.block_lt_of_cell? w _ k2)]; exact k2
        have k1' : wi.cell? ⟨g1, o1 + i * 2, none⟩ = some (.int .i64 s.1) := by
          rw [HW.out.d5.low.cell (World.block_lt_of_cell? w _ k1)]; exact k1
        have HS : Hid (x.states[i]? = some s ∧ s.2.length = en ∧ takeB g (x.states.take (i + 1)) = takeB g (x.states.take i) ++ [(s.1, woE g s.2)]) := ⟨hs, k3.length, hts⟩
        rw [hta] at c10
        clear hs hts hcs k1 k2 k3 hta hig
        have HI0 : Hid (∃ (fa : Option Addr) (fm fc : Nat), WtI wi s.1 (woE g (s.2.take 0)) fa fm fc (wi.alloc (.cells #[.int .i64 s.1, .slice none 0 0] 39))) := ⟨none, 0, 0, (Below.refl _ _).alloc (Nat.le_refl _) _, heap_alloc_new wi _, none_row _ _ _ _, rfl⟩
        obtain ⟨w4, hw4⟩ : ∃ w4, w4 = wi.alloc (.cells #[.int .i64 s.1, .slice none 0 0] 39) := ⟨_, rfl⟩
        rw [← hw4] at HI0
        go_upto_region 8 with (fail)
        rw [← hw4]
        obtain ⟨sb, hsb⟩ : ∃ sb, wi.heap.size = sb := ⟨_, rfl⟩
        have HSB : Hid (wi.heap.size = sb) := hsb
        rw [hsb]
        clear hw4 c10 k1' hk0 hsb
        go_wp2
        go_loopg [8, 9] en (fun q kv _ wr => ∃ (k : Nat), k + q = en ∧ kv = .int .i64 k ∧ Hid (∃ (fa : Option Addr) (fm fc : Nat), WtI wi s.1 (woE g (s.2.take k)) fa fm fc wr))
        case atStart => exact ⟨0, by omega, rfl, HI0.out⟩
        case round =>
          clear HI0
          obtain ⟨k, hkq, rfl, HK⟩ := hrel
          obtain ⟨fa, fm, fc, hk⟩ := HK.out
          have HI : Hid (WtI wi s.1 (woE g (s.2.take k)) fa fm fc wr) := hk
          have hd5 := (HW.out.next hk.low).d5
          obtain ⟨c10, l1, l2⟩ := HF.out wr hd5
          clear hk HK
          by_cases hkl : k < en
          · obtain ⟨e, hed⟩ : ∃ e, s.2[k]? = some e := ⟨s.2[k]'(by rw [HS.out.2.1]; exact hkl), List.getElem?_eq_getElem _⟩
            obtain ⟨y1, q1, hea, hce⟩ := l2.cells (by omega)
            obtain ⟨d1, d2⟩ := hce k e hed
            rw [hea] at l1
            have hbe := sok_edges HR.out.2.1 s (List.mem_of_getElem? HS.out.1) e (List.mem_of_getElem? hed)
            have hfm : fm ≤ 100 := by
              have h1 := HI.out.len
              have h2 := woE_len g (s.2.take k)
              rw [List.length_take] at h2
              omega
            have htk : s.2.take (k + 1) = s.2.take k ++ [e] := take_get hed
            have hws := woE_snoc g (s.2.take k) e
            rw [← htk] at hws
            have hz0 : decide ((k : Int) < (en : Int)) = true := by simp; omega
            have hzd : (k : Int) < (en : Int) := by omega
            clear hed hce hea l2 htk hd5
            by_cases heg : e.1 = g
            · have HN : Hid (∃ (fa : Option Addr) (fm fc : Nat), WtI wi s.1 (woE g (s.2.take (k + 1))) fa fm fc (wr.alloc (.cells #[.int .i64 e.1, .int .i64 e.2] 49))) := by
                rw [hws, if_pos heg, List.append_nil]
                exact ⟨fa, fm, fc, HI.out.next ((Below.refl _ _).alloc (Nat.le_refl _) _)⟩
              have hee : (e.1 == (g : Int)) = true := by simpa using heg
              clear HI hws heg
              go_wp2
              go_roundg (gk - 1)
              case measure => omega
              case rel => exact ⟨k + 1, by omega, by go_num, HN.out⟩
            · rw [if_neg heg] at hws
              have hee : (e.1 == (g : Int)) = false := by simpa using heg
              by_cases hgt : (g : Int) < e.1
              · have hgd : decide ((g : Int) < e.1) = true := by simpa using hgt
                rw [if_pos hgt] at hws
                obtain ⟨a, ha⟩ : ∃ a, e.1 - 1 = a := ⟨_, rfl⟩
                rw [ha] at hws
                have HWs : Hid (woE g (s.2.take (k + 1)) = woE g (s.2.take k) ++ [(a, e.2)]) := hws
                have HA : Hid (∀ W, Below wr.heap.size wr W → WtI wi s.1 (woE g (s.2.take k)) fa fm fc W ∧ W.cell? ⟨sb, 1, none⟩ = some (.slice fa fm fc)) := fun W hW => by
                  have h1 := HI.out.next hW
                  refine ⟨h1, ?_⟩
                  rw [← HSB.out]; exact blk h1.box rfl
                obtain ⟨eb, heb⟩ : ∃ eb, wr.heap.size = eb := ⟨_, rfl⟩
                obtain ⟨w5, hw5⟩ : ∃ w5, w5 = wr.alloc (.cells #[.int .i64 (e.1 - 1), .int .i64 e.2] 49) := ⟨_, rfl⟩
                have h5 : Below wr.heap.size wr w5 := by rw [hw5]; exact (Below.refl _ _).alloc (Nat.le_refl _) _
                have HX : Hid (WtI wi s.1 (woE g (s.2.take k)) fa fm fc (w5.alloc (.cells #[.int .i64 a, .int .i64 e.2] 49)) ∧ SrcAt (w5.alloc (.cells #[.int .i64 a, .int .i64 e.2] 49)) (some ⟨w5.heap.size, 0, none⟩) 1 2 (pcCells (a, e.2)) ∧ wi.heap.size ≤ (w5.alloc (.cells #[.int .i64 a, .int .i64 e.2] 49)).heap.size) := by
                  have h6 : Below w5.heap.size w5 (w5.alloc (.cells #[.int .i64 a, .int .i64 e.2] 49)) := (Below.refl _ _).alloc (Nat.le_refl _) _
                  have h7 := ((HA.out w5 h5).1).next h6
                  exact ⟨h7, pc_new w5 (a, e.2), h7.low.size⟩
                have s1 : w5.cell? ⟨sb, 1, none⟩ = some (.slice fa fm fc) := (HA.out w5 h5).2
                have b0 : w5.cell? ⟨eb, 0, none⟩ = some (.int .i64 a) := by rw [hw5, ← heb, ← ha]; exact blk (heap_alloc_new wr _) rfl
                have b1 : w5.cell? ⟨eb, 1, none⟩ = some (.int .i64 e.2) := by rw [hw5, ← heb]; exact blk (heap_alloc_new wr _) rfl
                have HEQ : Hid (w5 = wr.alloc (.cells #[.int .i64 (e.1 - 1), .int .i64 e.2] 49) ∧ wr.heap.size = eb) := ⟨hw5, heb⟩
                clear hws heg h5 hw5 heb ha
                go_upto_region 15 with (fail)
                rw [← HEQ.out.1, HEQ.out.2]
                clear d1 d2 c10 l1 HEQ
                go_wp2_with (at_builtin; refine wpList_append_opt rfl _ _ 37 rfl wi.heap.size 49 i49 _ 2 16 Try.underlying37 hi49 hz490 hz491 hz492 rfl (by decide) (.slice fa fm fc) fm (pcRow (woE g (s.2.take k))) rfl HX.out.1.row (some ⟨w5.heap.size, 0, none⟩) 1 1 (pcCells (a, e.2)) rfl HX.out.2.1 (by unfold maxLen; omega) (by omega) HX.out.2.2 ?_)
                intro v' w6 ho6 hg6
                obtain ⟨fa2, fc2, rfl⟩ := owned_shape ho6
                have HP : Hid (WtI wi s.1 (woE g (s.2.take (k + 1))) fa2 (fm + 1) fc2 (w6.setCell ⟨sb, 1, none⟩ (.slice fa2 (fm + 1) fc2))) := by
                  rw [HWs.out, ← HSB.out]
                  exact HX.out.1.push hg6 ho6
                have s6 : w6.cell? ⟨sb, 1, none⟩ = some (.slice fa fm fc) ∧ w6.frozen? ⟨sb, 1, none⟩ = false := by
                  have hbx : w6.heap[wi.heap.size]? = _ := (hg6.block _ (lt_block HX.out.1.box) (fun e => by
                    rcases HX.out.1.row.2 with ⟨hv, _⟩ | ⟨g', cap', cur', hv, _, hg', _⟩
                    · rw [hv] at e; cases e
                    · rw [hv] at e
                      simp [Value.ownBlock] at e
                      have := HX.out.1.box
                      rw [e, hg'] at this
                      cases this)).trans HX.out.1.box
                  rw [← HSB.out]
                  exact ⟨blk hbx rfl, frozen_of_row w6 _ 1 _ _ hbx⟩
                obtain ⟨s6, f6⟩ := s6
                clear ho6 hg6 HX s1 b0 b1 HI HA
                go_wp2
                go_roundg (gk - 1)
                case measure => omega
                case rel => exact ⟨k + 1, by omega, by go_num, fa2, fm + 1, fc2, HP.out⟩
              · have hgd : decide ((g : Int) < e.1) = false := by simpa using hgt
                rw [if_neg hgt] at hws
                obtain ⟨a, ha⟩ : ∃ a, e.1 = a := ⟨_, rfl⟩
                rw [ha] at hws
                have HWs : Hid (woE g (s.2.take (k + 1)) = woE g (s.2.take k) ++ [(a, e.2)]) := hws
                have HA : Hid (∀ W, Below wr.heap.size wr W → WtI wi s.1 (woE g (s.2.take k)) fa fm fc W ∧ W.cell? ⟨sb, 1, none⟩ = some (.slice fa fm fc)) := fun W hW => by
                  have h1 := HI.out.next hW
                  refine ⟨h1, ?_⟩
                  rw [← HSB.out]; exact blk h1.box rfl
                obtain ⟨eb, heb⟩ : ∃ eb, wr.heap.size = eb := ⟨_, rfl⟩
                obtain ⟨w5, hw5⟩ : ∃ w5, w5 = wr.alloc (.cells #[.int .i64 e.1, .int .i64 e.2] 49) := ⟨_, rfl⟩
                have h5 : Below wr.heap.size wr w5 := by rw [hw5]; exact (Below.refl _ _).alloc (Nat.le_refl _) _
                have HX : Hid (WtI wi s.1 (woE g (s.2.take k)) fa fm fc (w5.alloc (.cells #[.int .i64 a, .int .i64 e.2] 49)) ∧ SrcAt (w5.alloc (.cells #[.int .i64 a, .int .i64 e.2] 49)) (some ⟨w5.heap.size, 0, none⟩) 1 2 (pcCells (a, e.2)) ∧ wi.heap.size ≤ (w5.alloc (.cells #[.int .i64 a, .int .i64 e.2] 49)).heap.size) := by
                  have h6 : Below w5.heap.size w5 (w5.alloc (.cells #[.int .i64 a, .int .i64 e.2] 49)) := (Below.refl _ _).alloc (Nat.le_refl _) _
                  have h7 := ((HA.out w5 h5).1).next h6
                  exact ⟨h7, pc_new w5 (a, e.2), h7.low.size⟩
                have s1 : w5.cell? ⟨sb, 1, none⟩ = some (.slice fa fm fc) := (HA.out w5 h5).2
                have b0 : w5.cell? ⟨eb, 0, none⟩ = some (.int .i64 a) := by rw [hw5, ← heb, ← ha]; exact blk (heap_alloc_new wr _) rfl
                have b1 : w5.cell? ⟨eb, 1, none⟩ = some (.int .i64 e.2) := by rw [hw5, ← heb]; exact blk (heap_alloc_new wr _) rfl
                have HEQ : Hid (w5 = wr.alloc (.cells #[.int .i64 e.1, .int .i64 e.2] 49) ∧ wr.heap.size = eb) := ⟨hw5, heb⟩
                clear hws heg h5 hw5 heb ha
                go_upto_region 15 with (fail)
                rw [← HEQ.out.1, HEQ.out.2]
                clear d1 d2 c10 l1 HEQ
                go_wp2_with (at_builtin; refine wpList_append_opt rfl _ _ 37 rfl wi.heap.size 49 i49 _ 2 16 Try.underlying37 hi49 hz490 hz491 hz492 rfl (by decide) (.slice fa fm fc) fm (pcRow (woE g (s.2.take k))) rfl HX.out.1.row (some ⟨w5.heap.size, 0, none⟩) 1 1 (pcCells (a, e.2)) rfl HX.out.2.1 (by unfold maxLen; omega) (by omega) HX.out.2.2 ?_)
                intro v' w6 ho6 hg6
                obtain ⟨fa2, fc2, rfl⟩ := owned_shape ho6
                have HP : Hid (WtI wi s.1 (woE g (s.2.take (k + 1))) fa2 (fm + 1) fc2 (w6.setCell ⟨sb, 1, none⟩ (.slice fa2 (fm + 1) fc2))) := by
                  rw [HWs.out, ← HSB.out]
                  exact HX.out.1.push hg6 ho6
                have s6 : w6.cell? ⟨sb, 1, none⟩ = some (.slice fa fm fc) ∧ w6.frozen? ⟨sb, 1, none⟩ = false := by
                  have hbx : w6.heap[wi.heap.size]? = _ := (hg6.block _ (lt_block HX.out.1.box) (fun e => by
                    rcases HX.out.1.row.2 with ⟨hv, _⟩ | ⟨g', cap', cur', hv, _, hg', _⟩
                    · rw [hv] at e; cases e
                    · rw [hv] at e
                      simp [Value.ownBlock] at e
                      have := HX.out.1.box
                      rw [e, hg'] at this
                      cases this)).trans HX.out.1.box
                  rw [← HSB.out]
                  exact ⟨blk hbx rfl, frozen_of_row w6 _ 1 _ _ hbx⟩
                obtain ⟨s6, f6⟩ := s6
                clear ho6 hg6 HX s1 b0 b1 HI HA
                go_wp2
                go_roundg (gk - 1)
                case measure => omega
                case rel => exact ⟨k + 1, by omega, by go_num, fa2, fm + 1, fc2, HP.out⟩
          · have hz0 : decide ((k : Int) < (en : Int)) = false := by simp; omega
            have HE : Hid (WtI wi s.1 (woE g s.2) fa fm fc wr) := by
              have := HI.out
              rw [List.take_of_length_le (by rw [HS.out.2.1]; omega)] at this
              exact this
            clear HI l2
            obtain ⟨m, hm⟩ : ∃ m, (takeB g (x.states.take i)).length = m := ⟨_, rfl⟩
            have hm9 : m ≤ 9 := by
              have := takeB_le g (x.states.take i)
              rw [List.length_take] at this
              omega
            have HO : Hid (WtO w #[.int .i64 x.letters, .slice da dn dc, .slice sa sn sc, .int .i64 x.beg, .int .i64 x.fin, .int .i64 x.front, .int .i64 x.back, .bool x.banded, .int .i64 x.lo, .int .i64 x.hi, .slice ta tn tc] ob x da2 dc2 sa2 sc2 tt tcc sl (takeB g (x.states.take i)) wr) := HW.out.next HE.out.low
            have t10 : wr.cell? ⟨ob, 10, none⟩ = some (.slice tt m tcc) := by rw [← hm]; exact blk HO.out.out rfl
            have s0 : wr.cell? ⟨sb, 0, none⟩ = some (.int .i64 s.1) := by rw [← HSB.out]; exact blk HE.out.box rfl
            have s1 : wr.cell? ⟨sb, 1, none⟩ = some (.slice fa fm fc) := by rw [← HSB.out]; exact blk HE.out.box rfl
            have h7 : Below wr.heap.size wr (wr.alloc (.cells #[.int .i64 s.1, .slice fa fm fc] 39)) :=  (Below.refl _ _).alloc (Nat.le_refl _) _
            have HX : Hid (WtO w #[.int .i64 x.letters, .slice da dn dc, .slice sa sn sc, .int .i64 x.beg, .int .i64 x.fin, .int .i64 x.front, .int .i64 x.back, .bool x.banded, .int .i64 x.lo, .int .i64 x.hi, .slice ta tn tc] ob x da2 dc2 sa2 sc2 tt tcc sl (takeB g (x.states.take i)) (wr.alloc (.cells #[.int .i64 s.1, .slice fa fm fc] 39)) ∧ WtI wi s.1 (woE g s.2) fa fm fc (wr.alloc (.cells #[.int .i64 s.1, .slice fa fm fc] 39)) ∧ SrcAt (wr.alloc (.cells #[.int .i64 s.1, .slice fa fm fc] 39)) (some ⟨wr.heap.size, 0, none⟩) 1 2 (srCells (s.1, fa, fm, fc)) ∧ (wr.alloc (.cells #[.int .i64 s.1, .slice fa fm fc] 39)).ownsRow w.heap.size 39 2 (.slice tt m tcc) m (srRow sl) ∧ w.heap.size ≤ (wr.alloc (.cells #[.int .i64 s.1, .slice fa fm fc] 39)).heap.size) := by
              have h8 := HO.out.next h7
              refine ⟨h8, HE.out.next h7, sr_new' _ _ _ _ _, ?_, h8.d5.low.size⟩
              have := h8.cp.states
              simp only at this
              rwa [hm] at this
            have HM : Hid ((takeB g (x.states.take i)).length = m) := hm
            clear h7 hm HO HE
            go_wp2_with (at_builtin; refine wpList_append_opt rfl _ _ 24 rfl w.heap.size 39 i39 _ 2 32 Try.underlying24 hi39 hz390 hz391 hz392 rfl (by decide) (.slice tt m tcc) m (srRow sl) rfl HX.out.2.2.2.1 (some ⟨wr.heap.size, 0, none⟩) 1 1 (srCells (s.1, fa, fm, fc)) rfl HX.out.2.2.1 (by unfold maxLen; omega) (by omega) HX.out.2.2.2.2 ?_)
            intro v' w8 ho8 hg8
            obtain ⟨tt2, tcc2, rfl⟩ := owned_shape ho8
            have HP : Hid (WtO w #[.int .i64 x.letters, .slice da dn dc, .slice sa sn sc, .int .i64 x.beg, .int .i64 x.fin, .int .i64 x.front, .int .i64 x.back, .bool x.banded, .int .i64 x.lo, .int .i64 x.hi, .slice ta tn tc] ob x da2 dc2 sa2 sc2 tt2 tcc2 (sl ++ [(s.1, fa, fm, fc)]) (takeB g (x.states.take (i + 1))) (w8.setCell ⟨ob, 10, none⟩ (.slice tt2 (m + 1) tcc2))) := by
              obtain ⟨h1, h2, _, h4, _⟩ := HX.out
              rw [HS.out.2.2, ← HM.out]
              rw [← HM.out] at hg8 ho8
              refine h1.push h2.len (owned_base h2.row HW.out.d5.low.size) (fun j r' a hj ha hb => ?_) hg8 ho8
              have hjl : j < (takeB g (x.states.take i)).length := by
                have := HW.out.cp.rows.1
                simp only at this
                rw [← this]; exact (List.getElem?_eq_some_iff.1 hj).1
              have hd := (HW.out.cp.rows.2 j r' _ hj (List.getElem?_eq_getElem hjl)).2.2
              rcases hd.2 with ⟨hv, _⟩ | ⟨g1, cap1, cur1, hv1, _, hg1, _⟩
              · rw [ha] at hv; cases hv
              · rw [ha] at hv1; cases hv1
                rcases h2.row.2 with ⟨hv, _⟩ | ⟨g2, cap2, cur2, hv2, hb2, _⟩
                · cases hv; cases hb
                · cases hv2; cases hb
                  have := lt_block hg1
                  omega
            have o8 : w8.cell? ⟨ob, 10, none⟩ = some (.slice tt m tcc) ∧ w8.frozen? ⟨ob, 10, none⟩ = false := by
              obtain ⟨h1, _, _, h4, _⟩ := HX.out
              have hbx : w8.heap[ob]? = _ := (hg8.block _ (lt_block h1.out) (fun e => by
                rcases h4.2 with ⟨hv, _⟩ | ⟨g', cap', cur', hv, _, hg', _⟩
                · rw [hv] at e; cases e
                · rw [hv] at e
                  simp [Value.ownBlock] at e
                  have := h1.out
                  rw [e, hg'] at this
                  cases this)).trans h1.out
              refine ⟨?_, frozen_of_row w8 _ 10 _ _ hbx⟩
              rw [← HM.out]; exact blk hbx rfl
            obtain ⟨o8, f8⟩ := o8
            clear ho8 hg8 HX t10 s0 s1
            go_wp2
            go_roundg (gI - 1)
            case measure => omega
            case rel => exact ⟨i + 1, by omega, by go_num, tt2, tcc2, _, HP.out⟩
    · have hk0 : decide ((i : Int) < (tn : Int)) = false := by simp; omega
      have HE : Hid (WtO w #[.int .i64 x.letters, .slice da dn dc, .slice sa sn sc, .int .i64 x.beg, .int .i64 x.fin, .int .i64 x.front, .int .i64 x.back, .bool x.banded, .int .i64 x.lo, .int .i64 x.hi, .slice ta tn tc] ob x da2 dc2 sa2 sc2 tt tcc sl (takeB g x.states) wi) := by
        have := HW.out
        rw [takeB_all g x.states (by rw [HL.out.2.2]; omega)] at this
        exact this
      clear HW
      have ho := HE.out.out
      unfold rcCells at ho
      simp only [HL.out.1, HL.out.2.1] at ho
      have o0 : wi.cell? ⟨ob, 0, none⟩ = some (.int .i64 x.letters) := blk ho rfl
      have o1 : wi.cell? ⟨ob, 1, none⟩ = some (.slice da2 dn dc2) := blk ho rfl
      have o2 : wi.cell? ⟨ob, 2, none⟩ = some (.slice sa2 sn sc2) := blk ho rfl
      have o3 : wi.cell? ⟨ob, 3, none⟩ = some (.int .i64 x.beg) := blk ho rfl
      have o4 : wi.cell? ⟨ob, 4, none⟩ = some (.int .i64 x.fin) := blk ho rfl
      have o5 : wi.cell? ⟨ob, 5, none⟩ = some (.int .i64 x.front) := blk ho rfl
      have o6 : wi.cell? ⟨ob, 6, none⟩ = some (.int .i64 x.back) := blk ho rfl
      have o7 : wi.cell? ⟨ob, 7, none⟩ = some (.bool x.banded) := blk ho rfl
      have o8 : wi.cell? ⟨ob, 8, none⟩ = some (.int .i64 x.lo) := blk ho rfl
      have o9 : wi.cell? ⟨ob, 9, none⟩ = some (.int .i64 x.hi) := blk ho rfl
      have o10 : wi.cell? ⟨ob, 10, none⟩ = some (.slice tt (takeB g x.states).length tcc) := blk ho rfl
      have r0 : wi.cell? ⟨w.heap.size + 1, 0, none⟩ = some (.int .i64 0) := blk HE.out.d5.res rfl
      have r1 : wi.cell? ⟨w.heap.size + 1, 1, none⟩ = some (.slice none 0 0) := blk HE.out.d5.res rfl
      have r2 : wi.cell? ⟨w.heap.size + 1, 2, none⟩ = some (.slice none 0 0) := blk HE.out.d5.res rfl
      have r3 : wi.cell? ⟨w.heap.size + 1, 3, none⟩ = some (.int .i64 0) := blk HE.out.d5.res rfl
      have r4 : wi.cell? ⟨w.heap.size + 1, 4, none⟩ = some (.int .i64 0) := blk HE.out.d5.res rfl
      have r5 : wi.cell? ⟨w.heap.size + 1, 5, none⟩ = some (.int .i64 0) := blk HE.out.d5.res rfl
      have r6 : wi.cell? ⟨w.heap.size + 1, 6, none⟩ = some (.int .i64 0) := blk HE.out.d5.res rfl
      have r7 : wi.cell? ⟨w.heap.size + 1, 7, none⟩ = some (.bool false) := blk HE.out.d5.res rfl
      have r8 : wi.cell? ⟨w.heap.size + 1, 8, none⟩ = some (.int .i64 0) := blk HE.out.d5.res rfl
      have r9 : wi.cell? ⟨w.heap.size + 1, 9, none⟩ = some (.int .i64 0) := blk HE.out.d5.res rfl
      have r10 : wi.cell? ⟨w.heap.size + 1, 10, none⟩ = some (.slice none 0 0) := blk HE.out.d5.res rfl
      have ff : ∀ i, wi.frozen? ⟨w.heap.size + 1, i, none⟩ = false := fun i => frozen_of_row wi _ i _ _ HE.out.d5.res
      clear ho
      go_wp2
      refine bodyPost_ret (v := .agg #[.int .i64 x.letters, .slice da2 dn dc2, .slice sa2 sn sc2, .int .i64 x.beg, .int .i64 x.fin, .int .i64 x.front, .int .i64 x.back, .bool x.banded, .int .i64 x.lo, .int .i64 x.hi, .slice tt (takeB g x.states).length tcc]) ?_ rfl ?_
      · simp only [results, hres]
        go_simp
      · refine ⟨da2, dc2, sa2, sc2, tt, tcc, sl, rfl, below_r HE.out.d5.low _ _ _ _ _ _ _ _ _ _ _, ?_⟩
        have hg : wi.grownBy _ (some (w.heap.size + 1)) := grown_r (w := w) (W := wi) (.int .i64 x.letters) (.slice da2 dn dc2) (.slice sa2 sn sc2) (.int .i64 x.beg) (.int .i64 x.fin) (.int .i64 x.front) (.int .i64 x.back) (.bool x.banded) (.int .i64 x.lo) (.int .i64 x.hi) (.slice tt (takeB g x.states).length tcc)
        have hrs := HE.out.d5.res
        have hc := HE.out.cp
        exact ⟨own_kind hc.defs hrs (by decide) hg, own_kind hc.subst hrs (by decide) hg, own_kind hc.states hrs (by decide) hg, hc.rows.kind hrs (by decide) hg, hc.apart⟩
end Go.Proofs.Ytolehoibpnenlaa
