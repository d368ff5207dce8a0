/-
  A state is taken away.
-/
import Derived.Test.YtolehoibpnenlabPsI
import Derived.Test.YtolehoibpnenlabPsX
import Derived.Test.YtolehoibpnenlabMq
import Derived.Test.YtolehoibpnenlabPdF
namespace Go.Proofs.Ytolehoibpnenlab
open Go.RowKit Go.Deep Go.Maps

theorem erase_get {α : Type} {l : List α} {g i : Nat} {a : α} (h : (l.eraseIdx g)[i]? = some a) : l[if i < g then i else i + 1]? = some a := by
  rw [List.getElem?_eraseIdx] at h
  split
  · rename_i hlt; rwa [if_pos hlt] at h
  · rename_i hlt; rwa [if_neg hlt] at h
theorem Own2.erase {w : World} {base : Nat} {sl : List Sr} {l : List St} (h : Own2 w base sl l) (g : Nat) : Own2 w base (sl.eraseIdx g) (l.eraseIdx g) :=
  ⟨by rw [List.length_eraseIdx, List.length_eraseIdx, h.1], fun i r s hi hs => h.2 _ r s (erase_get hi) (erase_get hs)⟩
theorem Dj.erase {sl : List Sr} (h : Dj sl) (g : Nat) : Dj (sl.eraseIdx g) := fun i j r r' a hij hi hj =>
  h _ _ r r' a (by split <;> split <;> omega) (erase_get hi) (erase_get hj)
theorem WkAt.erased {w w1 : World} {base wb tg n : Nat} {x : Rc} {vs : List Int} {y : Ly} (h : WkAt w base wb x vs y) (hta : y.ta = some ⟨tg, 0, none⟩) (hn : x.states.length = n) {g : Nat} (hgn : g < n) (hg : w.grownBy w1 (some tg))
    (hrow : w1.ownsRow base 39 2 (.slice (some ⟨tg, 0, none⟩) (n - 1) y.tc) (n - 1) (srRow (y.sl.eraseIdx g))) :
    WkAt (w1.setCell ⟨wb, 10, none⟩ (.slice (some ⟨tg, 0, none⟩) (n - 1) y.tc)) base wb { x with states := x.states.eraseIdx g } vs { y with sl := y.sl.eraseIdx g } := by
  obtain ⟨cst, _, hbt, hcst⟩ := own_block h.states (by omega)
  rw [hta] at hbt hcst
  simp only [blkOf] at hbt hcst
  have hbx : w1.heap[wb]? = _ := (hg.block _ (lt_block h.box) (fun e => by injection e with e; have := h.box; rw [e, hcst] at this; cases this)).trans h.box
  have hg2 := grown_set w1 wb 10 (.slice (some ⟨tg, 0, none⟩) (n - 1) y.tc)
  have hle : (x.states.eraseIdx g).length = n - 1 := by rw [List.length_eraseIdx_of_lt (by omega), hn]
  have key : ∀ {e : TypeId} {size : Nat} {v : Value} {m : Nat} {xs : List Value}, e ≠ 39 → e ≠ 54 → w.ownsRow base e size v m xs → (w1.setCell ⟨wb, 10, none⟩ (.slice (some ⟨tg, 0, none⟩) (n - 1) y.tc)).ownsRow base e size v m xs := fun h1 h2 ho => own_kind (own_kind ho hcst h1 hg) hbx h2 hg2
  refine ⟨h.fro, ?_, key (by decide) (by decide) h.defs, key (by decide) (by decide) h.subst, key (by decide) (by decide) h.nums, ?_, ?_, h.apart.erase g, h.two⟩
  · rw [heap_set _ hbx]
    simp only [wkCells, hta, hle]
    rfl
  · rw [hta]
    simp only [hle]
    exact own_kind hrow hbx (by decide) hg2
  · have h1 := h.rows.erase g
    exact ⟨h1.1, fun i r s hi hs => ⟨(h1.2 i r s hi hs).1, (h1.2 i r s hi hs).2.1, (h1.2 i r s hi hs).2.2.1, key (by decide) (by decide) (h1.2 i r s hi hs).2.2.2⟩⟩
theorem WkAt.edged {w w1 : World} {base wb tg i : Nat} {x : Rc} {vs : List Int} {y : Ly} (h : WkAt w base wb x vs y) (hta : y.ta = some ⟨tg, 0, none⟩) {kd : Int} {ea : Option Addr} {en ec m : Nat} (hr : y.sl[i]? = some (kd, ea, en, ec)) {s : St} (hs : x.states[i]? = some s)
    (hg : w.grownBy w1 (Value.slice ea en ec).ownBlock) {es : List (Int × Int)} (hm : m = es.length) (he : es.length ≤ 100) (hrow : w1.ownsRow base 42 2 (.slice ea m ec) m (pcRow es)) :
    WkAt (w1.setCell ⟨tg, i * 2 + 1, none⟩ (.slice ea m ec)) base wb { x with states := x.states.set i (s.1, es) } vs { y with sl := y.sl.set i (kd, ea, m, ec) } := by
  obtain ⟨k1, k2, k3, k4⟩ := h.rows.2 i _ s hr hs
  simp only at k1 k2 k4
  have hil := (List.getElem?_eq_some_iff.1 hs).1
  have hisl := (List.getElem?_eq_some_iff.1 hr).1
  have hst : w1.ownsRow base 39 2 (.slice y.ta x.states.length y.tc) x.states.length (srRow y.sl) := owned_grown h.states k4 (by decide) hg
  obtain ⟨cst, _, hbt, hcst⟩ := own_block hst (by omega)
  rw [hta] at hbt hcst
  simp only [blkOf] at hbt hcst
  have hbx : w1.heap[wb]? = some (.cells (wkCells x vs.length y) 54 (0, 0)) := (hg.block _ (lt_block h.box) (fun e => by
    rcases k4.2 with ⟨hv, _⟩ | ⟨g', cap', cur', hv, _, hg', _⟩
    · rw [hv] at e; cases e
    · rw [hv] at e
      simp [Value.ownBlock] at e
      have := h.box
      rw [e, hg'] at this
      cases this)).trans h.box
  have hg2 := grown_set w1 tg (i * 2 + 1) (.slice ea m ec)
  have key : ∀ {e : TypeId} {size : Nat} {v : Value} {m' : Nat} {xs : List Value}, e ≠ 42 → e ≠ 39 → w.ownsRow base e size v m' xs → (w1.setCell ⟨tg, i * 2 + 1, none⟩ (.slice ea m ec)).ownsRow base e size v m' xs := fun h1 h2 ho => own_kind (owned_grown ho k4 h1 hg) hcst h2 hg2
  refine ⟨h.fro, ?_, key (by decide) (by decide) h.defs, key (by decide) (by decide) h.subst, key (by decide) (by decide) h.nums, ?_, ⟨by simpa using h.rows.1, fun j r t hj ht => ?_⟩, ?_, h.two⟩
  · rw [hg2.block _ (lt_block hbx) (fun e => by injection e with e; rw [e, hcst] at hbx; cases hbx), hbx]
    simp [wkCells]
  · rw [hta] at hst ⊢
    have h1 := own_set hst (i * 2 + 1) (.slice ea m ec)
    rw [srRow_set y.sl i (kd, ea, m, ec) _ hr rfl] at h1
    simpa using h1
  · simp only at hj ht
    by_cases hji : j = i
    · subst hji
      rw [List.getElem?_set_self hisl] at hj
      rw [List.getElem?_set_self hil] at ht
      cases hj; cases ht
      exact ⟨k1, hm, he, own_kind hrow hcst (by decide) hg2⟩
    · rw [List.getElem?_set_ne (Ne.symm hji)] at hj ht
      obtain ⟨p1, p2, p3, p4⟩ := h.rows.2 j r t hj ht
      refine ⟨p1, p2, p3, own_kind (p4.kept hg ?_) hcst (by decide) hg2⟩
      rcases p4.2 with ⟨hv, _⟩ | ⟨g', cap', cur', hv, _⟩
      · left; rw [hv]; rfl
      · right
        intro e
        rw [hv] at e
        rcases k4.2 with ⟨hv2, _⟩ | ⟨g2, cap2, cur2, hv2, _⟩
        · rw [hv2] at e; cases e
        · rw [hv2] at e
          simp [Value.ownBlock] at e
          subst e
          injection hv with e1
          injection hv2 with e2
          exact h.apart i j _ r ⟨g', 0, none⟩ (Ne.symm hji) hr hj e2 e1
  · intro a b r1 r2 ad hab h1 h2 h3
    simp only at h1 h2
    have key2 : ∀ (c : Nat) (r : Sr), (y.sl.set i (kd, ea, m, ec))[c]? = some r → ∃ r0, y.sl[c]? = some r0 ∧ r0.2.1 = r.2.1 := fun c r hc => by
      by_cases hci : c = i
      · subst hci
        rw [List.getElem?_set_self hisl] at hc
        cases hc
        exact ⟨_, hr, rfl⟩
      · rw [List.getElem?_set_ne (Ne.symm hci)] at hc
        exact ⟨r, hc, rfl⟩
    obtain ⟨q1, a1, b1⟩ := key2 a r1 h1
    obtain ⟨q2, a2, b2⟩ := key2 b r2 h2
    rw [← b1] at h3
    rw [← b2]
    exact h.apart a b q1 q2 ad hab a1 a2 h3
theorem below_grown {base : Nat} {w w' w2 : World} {e : TypeId} {size n : Nat} {v : Value} {xs : List Value} (h : Below base w w') (hg : w'.grownBy w2 v.ownBlock) (ho : w'.ownsRow base e size v n xs) (hb : base ≤ w'.heap.size) : Below base w w2 :=
  h.trans ⟨hg.os, hg.tape, hg.output, hg.size, fun k hk => hg.block k (by omega) (fun e => by have := (ho.lt k e.symm).1; omega)⟩

/-- What blocks of other types hold stays. -/
def Kp (w w' : World) : Prop := ∀ (g : Nat) (cs : Array Value) (t : TypeId), w.heap[g]? = some (.cells cs t (0, 0)) → t ≠ 54 → t ≠ 39 → t ≠ 42 → w'.heap[g]? = w.heap[g]?
theorem Kp.refl (w : World) : Kp w w := fun _ _ _ _ _ _ _ => rfl
theorem Kp.trans {w w1 w2 : World} (h : Kp w w1) (k : Kp w1 w2) : Kp w w2 := fun g cs t hc h1 h2 h3 => by
  have e := h g cs t hc h1 h2 h3
  exact (k g cs t (e.trans hc) h1 h2 h3).trans e
theorem Kp.below {w w' : World} (h : Below w.heap.size w w') : Kp w w' := fun g _ _ hc _ _ _ => h.block g (lt_block hc)
theorem Kp.grown {w w' : World} {r : Option Nat} (hg : w.grownBy w' r) (hr : ∀ k, r = some k → ∃ cs t, w.heap[k]? = some (.cells cs t (0, 0)) ∧ (t = 54 ∨ t = 39 ∨ t = 42)) : Kp w w' := fun g cs t hc h1 h2 h3 =>
  hg.block g (lt_block hc) (fun e => by
    obtain ⟨cs', t', hc', ht⟩ := hr g e.symm
    rw [hc] at hc'
    cases hc'
    rcases ht with h | h | h
    · exact h1 h
    · exact h2 h
    · exact h3 h)
theorem Kp.row {w w' : World} {base size n : Nat} {e : TypeId} {v : Value} {xs : List Value} (hg : w.grownBy w' v.ownBlock) (ho : w.ownsRow base e size v n xs) (he : e = 54 ∨ e = 39 ∨ e = 42) : Kp w w' := Kp.grown hg fun k hk => by
  rcases ho.2 with ⟨hv, _⟩ | ⟨g', cap', cur', hv, _, hg', _⟩
  · rw [hv] at hk; cases hk
  · rw [hv] at hk
    simp [Value.ownBlock] at hk
    subst hk
    exact ⟨_, _, hg', he⟩
theorem Kp.set {w : World} {g i : Nat} {cs : Array Value} {t : TypeId} (v : Value) (h : w.heap[g]? = some (.cells cs t (0, 0))) (ht : t = 54 ∨ t = 39 ∨ t = 42) : Kp w (w.setCell ⟨g, i, none⟩ v) :=
  Kp.grown (grown_set w g i v) fun k hk => by cases hk; exact ⟨_, _, h, ht⟩
theorem Kp.own {w w' : World} (h : Kp w w') {base size n : Nat} {e : TypeId} {v : Value} {xs : List Value} (ho : w.ownsRow base e size v n xs) (h1 : e ≠ 54) (h2 : e ≠ 39) (h3 : e ≠ 42) : w'.ownsRow base e size v n xs :=
  owned_of_block ho fun g cur _ hc => h g cur e hc h1 h2 h3
def tkS (g : Nat) (s : St) : St := (s.1, woE g s.2)
set_option maxRecDepth 20000 in
set_option maxHeartbeats 4000000 in
theorem take_calls (w : World) (base wb g : Nat) (x : Rc) (vs : List Int) (y : Ly) (h : WkAt w base wb x vs y) (hbw : base ≤ w.heap.size) (hn9 : x.states.length ≤ 9) (hgn : g < x.states.length) (hed : ∀ s ∈ x.states, ∀ e ∈ s.2, -1 ≤ e.1 ∧ e.1 ≤ 100) :
    Calls Try.prog 40 #[.pointer (some ⟨wb, 0, none⟩), .int .i64 (g : Int)] w fun e w' => e = .returned (.tuple #[]) ∧ (∃ y', WkAt w' base wb { x with states := takeB g x.states } vs y') ∧ Below base w w' ∧ Kp w w' := by
  obtain ⟨n, hn⟩ : ∃ n, x.states.length = n := ⟨_, rfl⟩
  obtain ⟨tg, hta⟩ : ∃ tg, y.ta = some ⟨tg, 0, none⟩ := by
    obtain ⟨tg, cap, hv, _⟩ := owned_some h.states (by omega)
    injection hv with e1
    exact ⟨tg, e1⟩
  have hst := h.states
  rw [hta, hn] at hst
  have hsl : y.sl.length = n := by rw [← hn]; exact h.rows.1
  have c10 : w.cell? ⟨wb, 10, none⟩ = some (.slice (some ⟨tg, 0, none⟩) n y.tc) := by rw [← hta, ← hn]; exact h.cell 10 _ rfl
  have HD : Hid (Calls Try.prog 56 #[.slice (some ⟨tg, 0, none⟩) n y.tc, .int .i64 (g : Int), .int .i64 ((g : Int) + 1)] w fun e w' => e = .returned (.slice (some ⟨tg, 0, none⟩) (n - 1) y.tc) ∧ w'.ownsRow base 39 2 (.slice (some ⟨tg, 0, none⟩) (n - 1) y.tc) (n - 1) (srRow (y.sl.eraseIdx g)) ∧ w.grownBy w' (some tg)) := delSt_calls y.sl base tg n y.tc g w hsl (by omega) (by omega) hst
  have HW : Hid (WkAt w base wb x vs y ∧ y.ta = some ⟨tg, 0, none⟩ ∧ x.states.length = n ∧ g < n ∧ base ≤ w.heap.size ∧ w.ownsRow base 39 2 (.slice (some ⟨tg, 0, none⟩) n y.tc) n (srRow y.sl)) := ⟨h, hta, hn, by omega, hbw, hst⟩
  have HE : Hid (takeB g x.states = (x.states.eraseIdx g).map (tkS g) ∧ (x.states.eraseIdx g).length = n - 1 ∧ ∀ s ∈ x.states.eraseIdx g, ∀ e ∈ s.2, -1 ≤ e.1 ∧ e.1 ≤ 100) := ⟨rfl, by rw [List.length_eraseIdx_of_lt hgn, hn], fun s hs => hed s (List.mem_of_mem_eraseIdx hs)⟩
  rw [hn] at hgn hn9
  obtain ⟨tc, htc⟩ : ∃ tc, y.tc = tc := ⟨_, rfl⟩
  rw [htc] at c10 HD
  have HTC : Hid (y.tc = tc) := htc
  clear h hst hta hsl hed hn hbw htc
  go_enter Try.func40, Try.ntmps40
  go_wp2_with fail
  refine HD.out.mono ?_
  rintro e w1 ⟨rfl, ho1, hg1⟩
  have HX : Hid (WkAt (w1.setCell ⟨wb, 10, none⟩ (.slice (some ⟨tg, 0, none⟩) (n - 1) tc)) base wb { x with states := parL (tkS g) (x.states.eraseIdx g) 0 } vs { y with sl := y.sl.eraseIdx g } ∧ Below base w (w1.setCell ⟨wb, 10, none⟩ (.slice (some ⟨tg, 0, none⟩) (n - 1) tc)) ∧ Kp w (w1.setCell ⟨wb, 10, none⟩ (.slice (some ⟨tg, 0, none⟩) (n - 1) tc))) := by
    obtain ⟨h1, h2, h3, h4, h5, h6⟩ := HW.out
    have hx := h1.erased h2 h3 h4 hg1 (by rw [HTC.out]; exact ho1)
    rw [parL_zero, ← HTC.out]
    have hbx : w1.heap[wb]? = _ := (hg1.block _ (lt_block h1.box) (fun e => by
      injection e with e
      obtain ⟨cst, _, _, hcst⟩ := own_block h6 (by omega)
      simp only [blkOf] at hcst
      have := h1.box
      rw [e, hcst] at this
      cases this)).trans h1.box
    refine ⟨hx, Below.setCell ?_ h1.fro _, (Kp.row (v := .slice (some ⟨tg, 0, none⟩) n y.tc) hg1 h6 (by decide)).trans (Kp.set _ hbx (by decide))⟩
    exact below_grown (v := .slice (some ⟨tg, 0, none⟩) n y.tc) (Below.refl _ _) hg1 h6 h5
  have hne : some wb ≠ some tg := fun e => by
    injection e with e
    obtain ⟨cst, _, _, hcst⟩ := own_block HW.out.2.2.2.2.2 (by omega)
    simp only [blkOf] at hcst
    have := HW.out.1.box
    rw [e, hcst] at this
    cases this
  have f10 : w1.frozen? ⟨wb, 10, none⟩ = false := by
    rw [World.frozen?_of_block (w := w) (hg1.block wb (lt_block HW.out.1.box) hne)]
    exact HW.out.1.froz 10
  have ho10 : w1.cell? ⟨wb, 10, none⟩ = some (.slice (some ⟨tg, 0, none⟩) n tc) := by
    rw [World.cell?_of_block (w := w) (hg1.block wb (lt_block HW.out.1.box) hne)]
    exact c10
  clear hne c10 ho1 hg1 HD
  obtain ⟨w2, hw2⟩ : ∃ w2, w2 = w1.setCell ⟨wb, 10, none⟩ (.slice (some ⟨tg, 0, none⟩) (n - 1) tc) := ⟨_, rfl⟩
  rw [← hw2] at HX
  go_upto_region 1 with (fail)
  rw [← hw2]
  clear hw2 f10 ho10
  obtain ⟨m, hm⟩ : ∃ m, m = n - 1 := ⟨_, rfl⟩
  rw [← hm] at HE ⊢
  have hm8 : m ≤ 8 := by omega
  clear hm
  have HQ0 : Hid (∃ sl, WkAt w2 base wb { x with states := parL (tkS g) (x.states.eraseIdx g) 0 } vs { y with sl := sl } ∧ Below base w w2 ∧ Kp w w2) := ⟨_, HX.out⟩
  have c10 : w2.cell? ⟨wb, 10, none⟩ = some (.slice (some ⟨tg, 0, none⟩) m tc) := by
    have h1 := HX.out.1.cell 10 (.slice y.ta (parL (tkS g) (x.states.eraseIdx g) 0).length y.tc) rfl
    rw [parL_len, HE.out.2.1, HW.out.2.1, HTC.out] at h1
    exact h1
  clear HX
  go_wp2
  clear c10
  go_loopg [4, 24] m (fun q _ iv wr => ∃ (k : Nat), k + q = m ∧ iv = .int .i64 k ∧ Hid (∃ sl, WkAt wr base wb { x with states := parL (tkS g) (x.states.eraseIdx g) k } vs { y with sl := sl } ∧ Below base w wr ∧ Kp w wr))
  case atStart => exact ⟨0, by omega, rfl, HQ0.out⟩
  case round =>
    clear HQ0
    obtain ⟨k, hkq, rfl, HQ⟩ := hrel
    by_cases hlt : k < m
    · obtain ⟨sl, hwk, hlow, hkp⟩ := HQ.out
      obtain ⟨s, hs⟩ : ∃ s, (x.states.eraseIdx g)[k]? = some s := ⟨(x.states.eraseIdx g)[k]'(by rw [HE.out.2.1]; exact hlt), List.getElem?_eq_getElem _⟩
      have hsp := parL_get (tkS g) (x.states.eraseIdx g) k hs
      have hlp : (parL (tkS g) (x.states.eraseIdx g) k).length = m := by rw [parL_len, HE.out.2.1]
      obtain ⟨rr, hrr⟩ : ∃ rr, sl[k]? = some rr := ⟨sl[k]'(by have := hwk.rows.1; simp only at this; rw [this, hlp]; exact hlt), List.getElem?_eq_getElem _⟩
      obtain ⟨kd, ea, en, ec⟩ := rr
      obtain ⟨k1, k2, k3, k4⟩ := hwk.rows.2 k (kd, ea, en, ec) s hrr hsp
      simp only at k1 k2 k4
      have hse := HE.out.2.2 s (List.mem_of_getElem? hs)
      have HK : Hid (WkAt wr base wb { x with states := parL (tkS g) (x.states.eraseIdx g) k } vs { y with sl := sl } ∧ Below base w wr ∧ sl[k]? = some (kd, ea, en, ec) ∧ (x.states.eraseIdx g)[k]? = some s ∧ (parL (tkS g) (x.states.eraseIdx g) k)[k]? = some s ∧ wr.ownsRow base 42 2 (.slice ea en ec) en (pcRow s.2) ∧ s.2.length = en ∧ en ≤ 100 ∧ base ≤ wr.heap.size ∧ Kp w wr) := ⟨hwk, hlow, hrr, hs, hsp, k4, k2.symm, by rw [k2]; exact k3, Nat.le_trans HW.out.2.2.2.2.1 hlow.size, hkp⟩
      have HC : Hid (Calls Try.prog 57 #[.int .i64 (g : Int), .slice ea en ec] wr.drew fun e w' => ∃ m : Nat, e = .returned (.slice ea m ec) ∧ m = (woE g s.2).length ∧ w'.ownsRow base 42 2 (.slice ea m ec) m (pcRow (woE g s.2)) ∧ wr.drew.grownBy w' (Value.slice ea en ec).ownBlock) := wo_calls g s.2 base ea en ec wr.drew k2.symm (by rw [k2]; exact k3) (owned_heap k4 rfl) hse
      have HS1 : Hid (∀ W, wr.grownBy W (Value.slice ea en ec).ownBlock → (W.cell? ⟨wb, 10, none⟩ = some (.slice (some ⟨tg, 0, none⟩) m tc) ∧ W.cell? ⟨tg, k * 2 + 1, none⟩ = some (.slice ea en ec)) ∧ W.frozen? ⟨tg, k * 2 + 1, none⟩ = false) := fun W hW => by
        have hst := hwk.states
        simp only at hst
        rw [HW.out.2.1, hlp, HTC.out] at hst
        have hst2 : W.ownsRow base 39 2 (.slice (some ⟨tg, 0, none⟩) m tc) m (srRow sl) := owned_grown hst k4 (by decide) hW
        have hbx : W.heap[wb]? = _ := (hW.block _ (lt_block hwk.box) (fun e => by
          have h5 := hwk.box
          rcases k4.2 with ⟨hv, _⟩ | ⟨g', cap', cur', hv, _, hg', _⟩
          · rw [hv] at e; cases e
          · rw [hv] at e
            simp [Value.ownBlock] at e
            rw [e, hg'] at h5
            cases h5)).trans hwk.box
        have h6 := blk (i := 10) (u := .slice y.ta (parL (tkS g) (x.states.eraseIdx g) k).length y.tc) hbx rfl
        rw [hlp, HW.out.2.1, HTC.out] at h6
        obtain ⟨q1, q2⟩ := owned_cells hst2 (k * 2 + 1) _ (flat_get (f := srCells) (s := 2) (fun _ => rfl) sl k _ 1 _ hrr rfl)
        exact ⟨⟨h6, q1⟩, q2⟩
      clear hwk hlow hkp hs hsp hlp hrr k1 k2 k3 k4 hse HQ
      have hk0 : decide ((k : Int) < (m : Int)) = true := by simp; omega
      have hkd : (k : Int) < (m : Int) := by omega
      go_wp2_with fail
      have hs0 := (HS1.out wr.drew (grown_drew (grown_refl wr _))).1
      refine wp_region_Y (fun j => [19].contains j) (fun W : World => W.cell? ⟨wb, 10, none⟩ = some (.slice (some ⟨tg, 0, none⟩) m tc) ∧ W.cell? ⟨tg, k * 2 + 1, none⟩ = some (.slice ea en ec)) (by kernel_rfl) ?_
      refine wpAnyY_pure (i := 0) 27 (v := .pointer (some ⟨wb, 0, none⟩)) rfl rfl (by kernel_rfl) (by kernel_rfl) (by kernel_rfl) (fun _ _ _ h => h) (Or.inl ⟨by rfl, by (intro W _; go_simp)⟩) ?_
      simp only [Act.put, List.setIfInBounds_toArray, List.set_cons_succ, List.set_cons_zero]
      refine wpAnyY_pure (i := 1) 28 (v := .pointer (some ⟨wb, 0, none⟩)) rfl rfl (by kernel_rfl) (by kernel_rfl) (by kernel_rfl) (fun _ _ _ h => h) (Or.inl ⟨by rfl, by (intro W _; go_simp)⟩) ?_
      simp only [Act.put, List.setIfInBounds_toArray, List.set_cons_succ, List.set_cons_zero]
      refine wpAnyY_pure (i := 2) 29 (v := .pointer (some ⟨wb, 0, none⟩)) rfl rfl (by kernel_rfl) (by kernel_rfl) (by kernel_rfl) (fun _ _ _ h => h) (Or.inl ⟨by rfl, by (intro W _; go_simp)⟩) ?_
      simp only [Act.put, List.setIfInBounds_toArray, List.set_cons_succ, List.set_cons_zero]
      refine wpAnyY_pure (i := 3) 30 (v := .pointer (some ⟨wb, 10, none⟩)) rfl rfl (by kernel_rfl) (by kernel_rfl) (by kernel_rfl) (fun _ _ _ h => h) (Or.inl ⟨by rfl, by (intro W _; go_simp)⟩) ?_
      simp only [Act.put, List.setIfInBounds_toArray, List.set_cons_succ, List.set_cons_zero]
      refine wpAnyY_takeD (i := 4) 31 (v := .slice (some ⟨tg, 0, none⟩) m tc) rfl rfl (by kernel_rfl) (by kernel_rfl) (late_of (by kernel_rfl)) (by kernel_rfl) (by kernel_rfl) (fun _ _ _ h => h) hs0 (Or.inl ⟨by rfl, by (intro W hW; obtain ⟨s0, s1⟩ := hW; go_simp)⟩) ?_
      simp only [Act.put, List.setIfInBounds_toArray, List.set_cons_succ, List.set_cons_zero]
      refine wpAnyY_pure (i := 5) 32 (v := .int .i64 (k : Int)) rfl rfl (by kernel_rfl) (by kernel_rfl) (by kernel_rfl) (fun _ _ _ h => h) (Or.inl ⟨by rfl, by (intro W _; go_simp)⟩) ?_
      simp only [Act.put, List.setIfInBounds_toArray, List.set_cons_succ, List.set_cons_zero]
      refine wpAnyY_pure (i := 6) 33 (v := .int .i64 (g : Int)) rfl rfl (by kernel_rfl) (by kernel_rfl) (by kernel_rfl) (fun _ _ _ h => h) (Or.inl ⟨by rfl, by (intro W _; go_simp)⟩) ?_
      simp only [Act.put, List.setIfInBounds_toArray, List.set_cons_succ, List.set_cons_zero]
      refine wpAnyY_pure (i := 7) 34 (v := .pointer (some ⟨wb, 0, none⟩)) rfl rfl (by kernel_rfl) (by kernel_rfl) (by kernel_rfl) (fun _ _ _ h => h) (Or.inl ⟨by rfl, by (intro W _; go_simp)⟩) ?_
      simp only [Act.put, List.setIfInBounds_toArray, List.set_cons_succ, List.set_cons_zero]
      refine wpAnyY_pure (i := 8) 35 (v := .pointer (some ⟨wb, 0, none⟩)) rfl rfl (by kernel_rfl) (by kernel_rfl) (by kernel_rfl) (fun _ _ _ h => h) (Or.inl ⟨by rfl, by (intro W _; go_simp)⟩) ?_
      simp only [Act.put, List.setIfInBounds_toArray, List.set_cons_succ, List.set_cons_zero]
      refine wpAnyY_pure (i := 9) 36 (v := .pointer (some ⟨wb, 0, none⟩)) rfl rfl (by kernel_rfl) (by kernel_rfl) (by kernel_rfl) (fun _ _ _ h => h) (Or.inl ⟨by rfl, by (intro W _; go_simp)⟩) ?_
      simp only [Act.put, List.setIfInBounds_toArray, List.set_cons_succ, List.set_cons_zero]
      refine wpAnyY_pure (i := 10) 37 (v := .pointer (some ⟨wb, 10, none⟩)) rfl rfl (by kernel_rfl) (by kernel_rfl) (by kernel_rfl) (fun _ _ _ h => h) (Or.inl ⟨by rfl, by (intro W _; go_simp)⟩) ?_
      simp only [Act.put, List.setIfInBounds_toArray, List.set_cons_succ, List.set_cons_zero]
      refine wpAnyY_takeD (i := 11) 38 (v := .slice (some ⟨tg, 0, none⟩) m tc) rfl rfl (by kernel_rfl) (by kernel_rfl) (late_of (by kernel_rfl)) (by kernel_rfl) (by kernel_rfl) (fun _ _ _ h => h) hs0 (Or.inl ⟨by rfl, by (intro W hW; obtain ⟨s0, s1⟩ := hW; go_simp)⟩) ?_
      simp only [Act.put, List.setIfInBounds_toArray, List.set_cons_succ, List.set_cons_zero]
      refine wpAnyY_pure (i := 12) 39 (v := .int .i64 (k : Int)) rfl rfl (by kernel_rfl) (by kernel_rfl) (by kernel_rfl) (fun _ _ _ h => h) (Or.inl ⟨by rfl, by (intro W _; go_simp)⟩) ?_
      simp only [Act.put, List.setIfInBounds_toArray, List.set_cons_succ, List.set_cons_zero]
      refine wpAnyY_pure (i := 13) 40 (v := .pointer (some ⟨tg, k * 2, none⟩)) rfl rfl (by kernel_rfl) (by kernel_rfl) (by kernel_rfl) (fun _ _ _ h => h) (Or.inl ⟨by rfl, by (intro W _; go_simp)⟩) ?_
      simp only [Act.put, List.setIfInBounds_toArray, List.set_cons_succ, List.set_cons_zero]
      refine wpAnyY_pure (i := 14) 41 (v := .pointer (some ⟨tg, k * 2 + 1, none⟩)) rfl rfl (by kernel_rfl) (by kernel_rfl) (by kernel_rfl) (fun _ _ _ h => h) (Or.inl ⟨by rfl, by (intro W _; go_simp)⟩) ?_
      simp only [Act.put, List.setIfInBounds_toArray, List.set_cons_succ, List.set_cons_zero]
      refine wpAnyY_takeD (i := 15) 42 (v := .slice ea en ec) rfl rfl (by kernel_rfl) (by kernel_rfl) (late_of (by kernel_rfl)) (by kernel_rfl) (by kernel_rfl) (fun _ _ _ h => h) hs0 (Or.inl ⟨by rfl, by (intro W hW; obtain ⟨s0, s1⟩ := hW; go_simp)⟩) ?_
      simp only [Act.put, List.setIfInBounds_toArray, List.set_cons_succ, List.set_cons_zero]
      refine wpAnyY_one (i := 16) rfl (by kernel_rfl) (fun Kc hKc => ?_)
      refine step_fn rfl 57 _ _ rfl Try.f57 Try.func57 (by kernel_rfl) (by kernel_rfl) #[.int .i64 (g : Int), .slice ea en ec] (by simp [Act.eval]) (HC.out) ?_
      rintro e w3 ⟨mm, rfl, hmm, ho3, hg3⟩
      have HX : Hid (mm = (woE g s.2).length ∧ w3.ownsRow base 42 2 (.slice ea mm ec) mm (pcRow (woE g s.2)) ∧ wr.grownBy w3 (Value.slice ea en ec).ownBlock) := ⟨hmm, ho3, grown_trans (grown_drew (grown_refl wr _)) hg3⟩
      clear hmm ho3 hg3
      refine ⟨_, rfl, hKc.out _ _ (fun _ _ => (HS1.out _ HX.out.2.2).1) ?_⟩
      clear hKc Kc
      simp only [Act.put]
      obtain ⟨⟨c10, ce⟩, ff⟩ := HS1.out _ HX.out.2.2
      clear hs0
      refine wpAnyY_one (i := 17) rfl (by kernel_rfl) (fun Kc hKc => ?_)
      go_simp
      refine hKc.out _ _ (fun _ h => h) ?_
      clear hKc Kc
      refine wpAnyY_one (i := 18) rfl (by kernel_rfl) (fun Kc hKc => ?_)
      go_simp
      refine hKc.out _ _ (fun _ h => h) ?_
      clear hKc Kc
      refine wpAnyY_one (i := 19) rfl (by kernel_rfl) (fun Kc hKc => ?_)
      go_simp
      refine hKc.out _ _ (fun h => absurd h (by decide)) ?_
      clear hKc Kc
      refine wpAnyY_done (by kernel_rfl) ?_ _
      clear c10 ce ff
      have HN : Hid (∃ sl, WkAt (w3.setCell ⟨tg, k * 2 + 1, none⟩ (.slice ea mm ec)) base wb { x with states := parL (tkS g) (x.states.eraseIdx g) (k + 1) } vs { y with sl := sl } ∧ Below base w (w3.setCell ⟨tg, k * 2 + 1, none⟩ (.slice ea mm ec)) ∧ Kp w (w3.setCell ⟨tg, k * 2 + 1, none⟩ (.slice ea mm ec))) := by
        obtain ⟨h1, h2, h3, h4, h5, h6, h7, h8, h9, h10⟩ := HK.out
        have hw := h1.edged HW.out.2.1 h3 h5 HX.out.2.2 HX.out.1 (by have := woE_len g s.2; omega) HX.out.2.1
        have hp := parL_set (tkS g) (x.states.eraseIdx g) k h4
        simp only at hw
        rw [show (s.1, woE g s.2) = tkS g s from rfl, hp] at hw
        have hst := owned_grown h1.states h6 (by decide) HX.out.2.2
        simp only at hst
        rw [HW.out.2.1, parL_len, HE.out.2.1] at hst
        obtain ⟨cst, _, _, hcst⟩ := own_block hst (by omega)
        simp only [blkOf] at hcst
        refine ⟨_, hw, Below.setCell (below_grown h2 HX.out.2.2 h6 h9) ?_ _, h10.trans ((Kp.row HX.out.2.2 h6 (by decide)).trans (Kp.set _ hcst (by decide)))⟩
        exact ((HW.out.2.2.2.2.2).lt tg rfl).1
      clear HX HK HC HS1
      go_wp2
      go_roundg (gk - 1)
      case measure => omega
      case rel => exact ⟨k + 1, by omega, by go_num, HN.out⟩
    · have hk0 : decide ((k : Int) < (m : Int)) = false := by simp; omega
      have HF : Hid ((∃ y', WkAt wr base wb { x with states := takeB g x.states } vs y') ∧ Below base w wr ∧ Kp w wr) := by
        obtain ⟨sl, h1, h2, h3⟩ := HQ.out
        rw [parL_all _ _ (by rw [HE.out.2.1]; omega), ← HE.out.1] at h1
        exact ⟨⟨_, h1⟩, h2, h3⟩
      clear HQ
      go_wp2
      go_end0
      exact ⟨rfl, HF.out⟩
end Go.Proofs.Ytolehoibpnenlab
