/-
  What was told, written over. What the laws of a pass ask.
-/
import Derived.Test.YtolehoibpnenlaaMy
import Derived.Test.YtolehoibpnenlaaMu
namespace Go.Proofs.Ytolehoibpnenlaa
open Go.RowKit Go.Deep Go.Maps

/-- A row below a number, whatever stands in it. -/
def Shp (top : Nat) (w : World) (base : Nat) (e : TypeId) (size : Nat) (v : Value) (n : Nat) : Prop := (∃ xs, w.ownsRow base e size v n xs) ∧ ∀ k, v.ownBlock = some k → k < top
theorem Shp.set {top : Nat} {w : World} {base : Nat} {e : TypeId} {size : Nat} {v : Value} {n : Nat} (h : Shp top w base e size v n) (g i : Nat) (u : Value) : Shp top (w.setCell ⟨g, i, none⟩ u) base e size v n := by
  obtain ⟨⟨xs, hl, h2⟩, ht⟩ := h
  refine ⟨?_, ht⟩
  rcases h2 with ⟨hv, h0⟩ | ⟨g', cap, cur, hv, hb, hg, h1, h2, h3, h4⟩
  · exact ⟨xs, hl, .inl ⟨hv, h0⟩⟩
  · by_cases hgg : g' = g
    · subst hgg
      refine ⟨(cur.setIfInBounds i u).toList.take (n * size), ?_, .inr ⟨g', cap, _, hv, hb, heap_set u hg, h1, h2, by simpa using h3, rfl⟩⟩
      have := congrArg List.length h4
      simp at this ⊢
      omega
    · refine ⟨xs, hl, .inr ⟨g', cap, cur, hv, hb, ?_, h1, h2, h3, h4⟩⟩
      rw [(grown_set w g i u).block _ (lt_block hg) (fun e => hgg (by injection e))]; exact hg
theorem shp_of {top : Nat} {w w' : World} {base : Nat} {e : TypeId} {size : Nat} {v : Value} {n : Nat} {xs : List Value} (h : w.ownsRow base e size v n xs) (ht : w.heap.size ≤ top) (hb : Below w.heap.size w w') : Shp top w' base e size v n :=
  ⟨⟨xs, owned_below h hb⟩, fun k hk => by
    rcases h.2 with ⟨hv, _⟩ | ⟨g', cap, cur, hv, _, hg, _⟩
    · rw [hv] at hk; cases hk
    · rw [hv] at hk; simp [Value.ownBlock] at hk; subst hk; have := lt_block hg; omega⟩
theorem Shp.cells {top : Nat} {w : World} {base : Nat} {e : TypeId} {size g n c : Nat} (h : Shp top w base e size (.slice (some ⟨g, 0, none⟩) n c) n) (j : Nat) (hj : j < n * size) : ∃ u, w.cell? ⟨g, j, none⟩ = some u ∧ w.frozen? ⟨g, j, none⟩ = false := by
  obtain ⟨⟨xs, hx⟩, _⟩ := h
  have hl : j < xs.length := by rw [hx.1]; exact hj
  obtain ⟨h1, h2⟩ := owned_cells hx j xs[j] (List.getElem?_eq_getElem hl)
  exact ⟨_, h1, h2⟩
theorem Shp.some {top : Nat} {w : World} {base : Nat} {e : TypeId} {size : Nat} {ao : Option Addr} {n c : Nat} (h : Shp top w base e size (.slice ao n c) n) (hn : 0 < n) : ∃ g cs, ao = some ⟨g, 0, none⟩ ∧ (base ≤ g ∧ g < top) ∧ w.heap[g]? = .some (.cells cs e (0, 0)) := by
  obtain ⟨⟨xs, hx⟩, ht⟩ := h
  rcases hx.2 with ⟨hv, h0⟩ | ⟨g', cap, cur, hv, hb, hg, _⟩
  · omega
  · have := ht g' (by rw [hv]; rfl)
    injection hv with e1
    exact ⟨g', cur, e1, ⟨hb, this⟩, hg⟩
structure Tr (w : World) (base top : Nat) (cs : Array Value) (da : Option Addr) (dn dc : Nat) (sa : Option Addr) (sn sc : Nat) (ta : Option Addr) (tn tc : Nat) (sl : List Sr) (wr : World) : Prop where
  low : Below base w wr
  keep : ∀ k, top ≤ k → k < w.heap.size → wr.heap[k]? = w.heap[k]?
  box : wr.heap[w.heap.size]? = some (.cells cs 26 (0, 0))
  defs : Shp top wr base 36 4 (.slice da dn dc) dn
  subst : Shp top wr base 3 1 (.slice sa sn sc) sn
  states : wr.ownsRow base 39 2 (.slice ta tn tc) tn (srRow sl)
  rows : ∀ (i : Nat) (r : Sr), sl[i]? = some r → Shp top wr base 49 2 (.slice r.2.1 r.2.2.1 r.2.2.2) r.2.2.1 ∧ r.2.2.1 ≤ 100
theorem Tr.set {w : World} {base top : Nat} {cs : Array Value} {da : Option Addr} {dn dc : Nat} {sa : Option Addr} {sn sc : Nat} {ta : Option Addr} {tn tc : Nat} {sl : List Sr} {wr : World} (h : Tr w base top cs da dn dc sa sn sc ta tn tc sl wr) {g : Nat} (i : Nat) (u : Value) {gc : Array Value} {t : TypeId} (hg : wr.heap[g]? = some (.cells gc t (0, 0))) (ht : t ≠ 26) (ht2 : 39 ≠ t) (hb : base ≤ g ∧ g < top) : Tr w base top cs da dn dc sa sn sc ta tn tc sl (wr.setCell ⟨g, i, none⟩ u) := by
  refine ⟨h.low.setCell hb.1 u, fun k h1 h2 => ?_, ?_, h.defs.set g i u, h.subst.set g i u, own_kind h.states hg ht2 (grown_set _ _ _ _), fun j r hj => ⟨(h.rows j r hj).1.set g i u, (h.rows j r hj).2⟩⟩
  · rw [(grown_set wr g i u).block _ (Nat.lt_of_lt_of_le h2 h.low.size) (fun e => by injection e with e; omega)]; exact h.keep k h1 h2
  rw [(grown_set wr g i u).block _ (lt_block h.box) (fun e => by injection e with e; rw [← e, h.box] at hg; cases hg; exact ht rfl)]
  exact h.box
set_option maxRecDepth 20000 in
set_option maxHeartbeats 4000000 in
theorem turned_calls (x : Rc) (da : Option Addr) (dc : Nat) (sa : Option Addr) (sc : Nat) (ta : Option Addr) (tc : Nat) (base top : Nat) (w w0 : World) (h : RcO w0 base x da dc sa sc ta tc) (h0 : w0.heap.size ≤ top) (hlow : Below w0.heap.size w0 w) (hbw : base ≤ w.heap.size) (h1 : x.defs.length ≤ 100000) (h2 : x.subst.length ≤ 100000) (h3 : x.states.length ≤ 1000) :
    Calls Try.prog 13 #[.agg (rcCells x da x.defs.length dc sa x.subst.length sc ta x.states.length tc)] w fun e w' => e = .returned (.tuple #[]) ∧ Below base w w' ∧ ∀ k, top ≤ k → k < w.heap.size → w'.heap[k]? = w.heap[k]? := by
  obtain ⟨sl, hst, hrw⟩ := h.states.rows
  obtain ⟨dn, hdn⟩ : ∃ dn, x.defs.length = dn := ⟨_, rfl⟩
  obtain ⟨sn, hsn⟩ : ∃ sn, x.subst.length = sn := ⟨_, rfl⟩
  obtain ⟨tn, htn⟩ : ∃ tn, x.states.length = tn := ⟨_, rfl⟩
  have hb0 : Below w.heap.size w (w.alloc (.cells (rcCells x da x.defs.length dc sa x.subst.length sc ta x.states.length tc) 26)) := (Below.refl _ _).alloc (Nat.le_refl _) _
  have HT : Hid (Tr w base top (rcCells x da x.defs.length dc sa x.subst.length sc ta x.states.length tc) da x.defs.length dc sa x.subst.length sc ta x.states.length tc sl (w.alloc (.cells (rcCells x da x.defs.length dc sa x.subst.length sc ta x.states.length tc) 26))) := by
    have hb1 := hlow.trans (hb0.mono hlow.size)
    refine ⟨hb0.mono hbw, fun k _ hk => hb0.block k hk, heap_alloc_new w _, shp_of h.defs h0 hb1, shp_of h.subst h0 hb1, owned_below hst hb1, fun i r hr => ?_⟩
    have hil : i < x.states.length := by rw [← hrw.1]; exact (List.getElem?_eq_some_iff.1 hr).1
    obtain ⟨_, q2, q3, q4⟩ := hrw.2 i r _ hr (List.getElem?_eq_getElem hil)
    exact ⟨shp_of q4 h0 hb1, by omega⟩
  have HSL : Hid (sl.length = tn) := by show _ = _; rw [← htn]; exact hrw.1
  clear h hst hrw hb0 hlow h0
  unfold rcCells at HT ⊢
  rw [hdn] at HT h1 ⊢
  rw [hsn] at HT h2 ⊢
  rw [htn] at HT h3 ⊢
  clear hdn hsn htn
  go_enter Try.func13, Try.ntmps13
  go_wp2
  go_loopg [2] dn (fun q iv wr => ∃ (k : Nat), k + q = dn ∧ iv = .int .i64 k ∧ Hid (Tr w base top #[.int .i64 x.letters, .slice da dn dc, .slice sa sn sc, .int .i64 x.beg, .int .i64 x.fin, .int .i64 x.front, .int .i64 x.back, .bool x.banded, .int .i64 x.lo, .int .i64 x.hi, .slice ta tn tc] da dn dc sa sn sc ta tn tc sl wr))
  case atStart => exact ⟨0, by omega, rfl, HT.out⟩
  case round =>
    clear HT
    obtain ⟨k, hkq, rfl, HT⟩ := hrel
    have c1 : wr.cell? ⟨w.heap.size, 1, none⟩ = some (.slice da dn dc) := blk HT.out.box rfl
    by_cases hlt : k < dn
    · obtain ⟨g, gc, hda, hgb, hgc⟩ := HT.out.defs.some (by omega)
      have hdf := HT.out.defs
      rw [hda] at hdf c1
      have HDA : Hid (da = some ⟨g, 0, none⟩) := hda
      obtain ⟨u0, e0, f0⟩ := hdf.cells (k * 4) (by omega)
      obtain ⟨u1, e1, f1⟩ := hdf.cells (k * 4 + 1) (by omega)
      obtain ⟨u2', e2, f2⟩ := hdf.cells (k * 4 + 2) (by omega)
      obtain ⟨u3, e3, f3⟩ := hdf.cells (k * 4 + 3) (by omega)
      have HN : Hid (Tr w base top #[.int .i64 x.letters, .slice da dn dc, .slice sa sn sc, .int .i64 x.beg, .int .i64 x.fin, .int .i64 x.front, .int .i64 x.back, .bool x.banded, .int .i64 x.lo, .int .i64 x.hi, .slice ta tn tc] da dn dc sa sn sc ta tn tc sl ((((wr.setCell ⟨g, k * 4, none⟩ (.int .i64 (-7))).setCell ⟨g, k * 4 + 1, none⟩ (.int .i64 0)).setCell ⟨g, k * 4 + 2, none⟩ (.int .i64 0)).setCell ⟨g, k * 4 + 3, none⟩ (.int .i64 0))) :=
        (((HT.out.set (k * 4) _ hgc (by decide) (by decide) hgb).set (k * 4 + 1) _ (heap_set _ hgc) (by decide) (by decide) hgb).set (k * 4 + 2) _ (heap_set _ (heap_set _ hgc)) (by decide) (by decide) hgb).set (k * 4 + 3) _ (heap_set _ (heap_set _ (heap_set _ hgc))) (by decide) (by decide) hgb
      clear hda hdf hgc HT
      have hk0 : decide ((k : Int) < (dn : Int)) = true := by simp; omega
      have hkd : (k : Int) < (dn : Int) := by omega
      go_wp2
      go_roundg (gk - 1)
      case measure => omega
      case rel => exact ⟨k + 1, by omega, by go_num, HN.out⟩
    · have hk0 : decide ((k : Int) < (dn : Int)) = false := by simp; omega
      go_wp2
      go_loopg [3] sn (fun q iv wr => ∃ (k : Nat), k + q = sn ∧ iv = .int .i64 k ∧ Hid (Tr w base top #[.int .i64 x.letters, .slice da dn dc, .slice sa sn sc, .int .i64 x.beg, .int .i64 x.fin, .int .i64 x.front, .int .i64 x.back, .bool x.banded, .int .i64 x.lo, .int .i64 x.hi, .slice ta tn tc] da dn dc sa sn sc ta tn tc sl wr))
      case atStart => exact ⟨0, by omega, rfl, HT.out⟩
      case round =>
        clear HT hk0 hlt hkq c1
        obtain ⟨j, hkq, rfl, HT⟩ := hrel
        have c2 : wr.cell? ⟨w.heap.size, 2, none⟩ = some (.slice sa sn sc) := blk HT.out.box rfl
        by_cases hlt : j < sn
        · obtain ⟨g, gc, hda, hgb, hgc⟩ := HT.out.subst.some (by omega)
          have hdf := HT.out.subst
          rw [hda] at hdf c2
          obtain ⟨u0, e0, f0⟩ := hdf.cells j (by omega)
          have HN : Hid (Tr w base top #[.int .i64 x.letters, .slice da dn dc, .slice sa sn sc, .int .i64 x.beg, .int .i64 x.fin, .int .i64 x.front, .int .i64 x.back, .bool x.banded, .int .i64 x.lo, .int .i64 x.hi, .slice ta tn tc] da dn dc sa sn sc ta tn tc sl (wr.setCell ⟨g, j, none⟩ (.int .i64 (-7)))) := HT.out.set j _ hgc (by decide) (by decide) hgb
          clear hda hdf hgc HT
          have hk0 : decide ((j : Int) < (sn : Int)) = true := by simp; omega
          have hkd : (j : Int) < (sn : Int) := by omega
          go_wp2
          go_roundg (gk - 1)
          case measure => omega
          case rel => exact ⟨j + 1, by omega, by go_num, HN.out⟩
        · have hk0 : decide ((j : Int) < (sn : Int)) = false := by simp; omega
          go_wp2
          go_loopg [4, 5] tn (fun q iv _ wr => ∃ (k : Nat), k + q = tn ∧ iv = .int .i64 k ∧ Hid (Tr w base top #[.int .i64 x.letters, .slice da dn dc, .slice sa sn sc, .int .i64 x.beg, .int .i64 x.fin, .int .i64 x.front, .int .i64 x.back, .bool x.banded, .int .i64 x.lo, .int .i64 x.hi, .slice ta tn tc] da dn dc sa sn sc ta tn tc sl wr))
          case atStart => exact ⟨0, by omega, rfl, HT.out⟩
          case round =>
            clear HT hk0 hlt hkq c2
            obtain ⟨i, hiq, rfl, HT⟩ := hrel
            obtain ⟨wo, rfl⟩ : ∃ wo, wo = wr := ⟨_, rfl⟩
            obtain ⟨gO, rfl⟩ : ∃ gO, gO = gk := ⟨_, rfl⟩
            have c10 : wo.cell? ⟨w.heap.size, 10, none⟩ = some (.slice ta tn tc) := blk HT.out.box rfl
            by_cases hlt : i < tn
            · obtain ⟨rr, hrr⟩ : ∃ rr, sl[i]? = some rr := ⟨sl[i]'(by rw [HSL.out]; exact hlt), List.getElem?_eq_getElem _⟩
              obtain ⟨kd, ea, en, ec⟩ := rr
              obtain ⟨tg, tcc, hta0, _⟩ := owned_some HT.out.states (by omega)
              have hta : ta = some ⟨tg, 0, none⟩ := by injection hta0
              have hen : en ≤ 100 := (HT.out.rows i _ hrr).2
              have HF : Hid (∀ W, Tr w base top #[.int .i64 x.letters, .slice da dn dc, .slice sa sn sc, .int .i64 x.beg, .int .i64 x.fin, .int .i64 x.front, .int .i64 x.back, .bool x.banded, .int .i64 x.lo, .int .i64 x.hi, .slice ta tn tc] da dn dc sa sn sc ta tn tc sl W → W.cell? ⟨w.heap.size, 10, none⟩ = some (.slice (some ⟨tg, 0, none⟩) tn tc) ∧ W.cell? ⟨tg, i * 2 + 1, none⟩ = some (.slice ea en ec) ∧ Shp top W base 49 2 (.slice ea en ec) en) := fun W hW => by
                refine ⟨by rw [← hta]; exact blk hW.box rfl, ?_, (hW.rows i _ hrr).1⟩
                have hs := hW.states
                rw [hta] at hs
                exact (owned_cells hs (i * 2 + 1) _ (flat_get (f := srCells) (s := 2) (fun _ => rfl) sl i _ 1 _ hrr rfl)).1
              rw [hta] at c10
              clear hrr hta0 hta
              have hk0 : decide ((i : Int) < (tn : Int)) = true := by simp; omega
              have hkd : (i : Int) < (tn : Int) := by omega
              go_wp2
              go_loopg [5] en (fun q iv wr => ∃ (k : Nat), k + q = en ∧ iv = .int .i64 k ∧ Hid (Tr w base top #[.int .i64 x.letters, .slice da dn dc, .slice sa sn sc, .int .i64 x.beg, .int .i64 x.fin, .int .i64 x.front, .int .i64 x.back, .bool x.banded, .int .i64 x.lo, .int .i64 x.hi, .slice ta tn tc] da dn dc sa sn sc ta tn tc sl wr))
              case atStart => exact ⟨0, by omega, rfl, HT.out⟩
              case round =>
                clear HT c10
                obtain ⟨z, hzq, rfl, HT⟩ := hrel
                obtain ⟨l1, l2, l3⟩ := HF.out wr HT.out
                by_cases hzl : z < en
                · obtain ⟨g, gc, hea, hgb, hgc⟩ := l3.some (by omega)
                  rw [hea] at l2 l3
                  obtain ⟨u0, e0, f0⟩ := l3.cells (z * 2) (by omega)
                  obtain ⟨u1, e1, f1⟩ := l3.cells (z * 2 + 1) (by omega)
                  have HN : Hid (Tr w base top #[.int .i64 x.letters, .slice da dn dc, .slice sa sn sc, .int .i64 x.beg, .int .i64 x.fin, .int .i64 x.front, .int .i64 x.back, .bool x.banded, .int .i64 x.lo, .int .i64 x.hi, .slice ta tn tc] da dn dc sa sn sc ta tn tc sl ((wr.setCell ⟨g, z * 2, none⟩ (.int .i64 (-7))).setCell ⟨g, z * 2 + 1, none⟩ (.int .i64 0))) :=
                    (HT.out.set (z * 2) _ hgc (by decide) (by decide) hgb).set (z * 2 + 1) _ (heap_set _ hgc) (by decide) (by decide) hgb
                  clear hea l3 hgc HT
                  have hz0 : decide ((z : Int) < (en : Int)) = true := by simp; omega
                  have hzd : (z : Int) < (en : Int) := by omega
                  go_wp2
                  go_roundg (gk - 1)
                  case measure => omega
                  case rel => exact ⟨z + 1, by omega, by go_num, HN.out⟩
                · have hz0 : decide ((z : Int) < (en : Int)) = false := by simp; omega
                  clear l3
                  go_wp2
                  go_roundg (gO - 1)
                  case measure => omega
                  case rel => exact ⟨i + 1, by omega, by go_num, HT.out⟩
            · have hk0 : decide ((i : Int) < (tn : Int)) = false := by simp; omega
              go_wp2
              go_end0
              exact ⟨rfl, HT.out.low, HT.out.keep⟩
end Go.Proofs.Ytolehoibpnenlaa
namespace Go.Proofs.Ytolehoibpnenlaa
open Go.RowKit Go.Deep Go.Maps

/-- A recurrence and an error. -/
def UPost (Y : Rc) (er : Int) (w : World) (e : Ending) (w' : World) : Prop := ∃ da dc sa sc ta tc, e = .returned (.tuple #[.agg (rcCells Y da Y.defs.length dc sa Y.subst.length sc ta Y.states.length tc), .int .i64 er]) ∧ Below w.heap.size w w' ∧ RcO w' w.heap.size Y da dc sa sc ta tc
def okX (ok : Bool) (X : Rc) : Rc := if ok then X else zeroX
def okE (ok : Bool) : Int := if ok then 0 else 120
theorem zero_rcO (w : World) (b : Nat) : RcO w b zeroX none 0 none 0 none 0 := ⟨none_row _ _ _ _, none_row _ _ _ _, ⟨[], none_row _ _ _ _, rfl, fun i r s hi => by simp at hi⟩⟩
theorem pass_u {ok : Bool} {X : Rc} {w : World} {e : Ending} {w' : World} (h : PassPost ok X w e w') : UPost (okX ok X) (okE ok) w e w' := by
  unfold PassPost at h
  cases ok with
  | true => simp only [if_true] at h; exact h
  | false =>
    simp only [Bool.false_eq_true, if_false] at h
    exact ⟨none, 0, none, 0, none, 0, h.1, h.2, zero_rcO _ _⟩
theorem zero_fit : Fit zeroX := ⟨fun d hd => by simp [zeroX] at hd, by simp [zeroX], by simp [zeroX], by simp [zeroX]⟩
theorem ok_fit {ok : Bool} {X : Rc} (h : ok = true → Fit X) : Fit (okX ok X) := by
  cases ok with
  | true => exact h rfl
  | false => exact zero_fit
theorem clamp_fit {x : Rc} (h : rightR x = true) (hf : ∀ d ∈ x.defs, InR d.num) : Fit (clampB x) := by
  obtain ⟨e1, e2, e3⟩ := clamp_defs x
  have h1 := (right_defs h).1
  have h2 := (right_subst h).1
  have h3 := (right_states h).1
  exact ⟨by rw [e1]; exact hf, by rw [e1]; omega, by rw [e2]; omega, by rw [e3]; omega⟩
theorem fold_fit {x : Rc} (h : rightR x = true) (_ : ∀ d ∈ x.defs, InR d.num) : Fit (foldB x (valsB x.defs).1) := by
  have hr := (fold_right h rfl).1
  have h1 := (right_defs hr).1
  have h2 := (right_subst hr).1
  have h3 := (right_states hr).1
  refine ⟨fun d hd => ?_, by omega, by omega, by omega⟩
  simp only [foldB, foldW, List.mem_map] at hd
  obtain ⟨v, hv, rfl⟩ := hd
  rw [(kept_rising x _).2, numsP] at hv
  obtain ⟨p, hp, rfl⟩ := List.mem_map.1 hv
  have h4 := (placesL_len x h).2 p hp
  have h5 := valsB_in x.defs _ (vAt_mem (vs := (valsB x.defs).1) (p := p) (by rw [(right_defs h).2]; omega))
  simp only [numD, InR]
  unfold maxV at h5
  omega
theorem RcO.keep {w w' : World} {base : Nat} {x : Rc} {da : Option Addr} {dc : Nat} {sa : Option Addr} {sc : Nat} {ta : Option Addr} {tc : Nat} (h : RcO w base x da dc sa sc ta tc) (hk : ∀ k, base ≤ k → k < w.heap.size → w'.heap[k]? = w.heap[k]?) : RcO w' base x da dc sa sc ta tc := by
  have key : ∀ {e : TypeId} {size : Nat} {v : Value} {n : Nat} {xs : List Value}, w.ownsRow base e size v n xs → w'.ownsRow base e size v n xs := fun ho => owned_of_block ho fun g cur hg hc => hk g (owned_from' ho g hg).1 (lt_block hc)
  obtain ⟨sl, h1, h2⟩ := h.states.rows
  exact ⟨key h.defs, key h.subst, ⟨sl, key h1, h2.1, fun i r s hi hs => ⟨(h2.2 i r s hi hs).1, (h2.2 i r s hi hs).2.1, (h2.2 i r s hi hs).2.2.1, key (h2.2 i r s hi hs).2.2.2⟩⟩⟩
end Go.Proofs.Ytolehoibpnenlaa
