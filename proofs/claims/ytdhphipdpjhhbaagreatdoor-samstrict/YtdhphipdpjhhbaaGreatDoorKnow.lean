/-
  The walk of sam's know.
-/
import Derived.Test.YtdhphipdpjhhbaaGreatDoorLists
namespace Go.Proofs.YtdhphipdpjhhbaaGreatDoor
open Go.RowKit

theorem info83 : (Tryz.prog.info? 83).map (fun i => (i.zero, i.size, i.bytes)) = some (some (.agg #[.string ⟨#[]⟩, .int .i64 0]), 2, 24) := by kernel_rfl
def rfCells (f : Rv) : List Value := [.string f.1, .int .i64 f.2]
def refCells (fs : List Rv) : List Value := fs.flatMap rfCells
theorem refCells_length (fs : List Rv) : (refCells fs).length = fs.length * 2 := by
  induction fs with
  | nil => rfl
  | cons q r ih => simp only [refCells, List.flatMap_cons, List.length_append, List.length_cons] at ih ⊢; rw [ih]; simp [rfCells]; omega
theorem refCells_snoc (fs : List Rv) (f : Rv) : refCells (fs ++ [f]) = refCells fs ++ rfCells f := by simp [refCells]
theorem refCells_get (fs : List Rv) : ∀ (i : Nat) (f : Rv), fs[i]? = some f → (refCells fs)[i * 2]? = some (.string f.1) ∧ (refCells fs)[i * 2 + 1]? = some (.int .i64 f.2) := by
  induction fs with
  | nil => intro i f h; simp at h
  | cons p r ih =>
    intro i f h
    have e : refCells (p :: r) = rfCells p ++ refCells r := by simp [refCells]
    have hl : (rfCells p).length = 2 := rfl
    rw [e]
    cases i with
    | zero => simp at h; subst h; simp [rfCells]
    | succ i =>
      have := ih i f (by simpa using h)
      refine ⟨?_, ?_⟩
      · rw [List.getElem?_append_right (by rw [hl]; omega), hl, show (i + 1) * 2 - 2 = i * 2 by omega]; exact this.1
      · rw [List.getElem?_append_right (by rw [hl]; omega), hl, show (i + 1) * 2 + 1 - 2 = i * 2 + 1 by omega]; exact this.2
theorem rf_oneCell (f : Rv) : ∀ u ∈ rfCells f, u.oneCell' = true := by
  intro u hu
  simp [rfCells] at hu
  rcases hu with rfl | rfl <;> rfl
theorem cell_rf_new (W : World) (f : Rv) : ∀ (i : Nat) (u : Value), (rfCells f)[i]? = some u → (W.alloc (.cells #[.string f.1, .int .i64 f.2] 83)).cell? ((⟨W.heap.size, 0, none⟩ : Addr).add i) = some u := by
  intro i u hu
  match i, hu with
  | 0, hu => simp [rfCells] at hu; subst hu; simp [Addr.add]
  | 1, hu => simp [rfCells] at hu; subst hu; simp [Addr.add]
theorem owned_refs {w : World} {base : Nat} {ao : Option Addr} {n cap : Nat} {fs : List Rv} (h : w.ownsRow base 83 2 (.slice ao n cap) n (refCells fs)) (h64 : n ≤ 64) (hf : ∀ f ∈ fs, rvOk f) : RefsAt w ao n fs := by
  have hl : fs.length = n := by have := h.1; rw [refCells_length] at this; omega
  rcases h.2 with ⟨hv, rfl⟩ | ⟨g, cap', cur, hv, hb, hg, h1, h2, h3, h4⟩
  · exact ⟨hl, by decide, hf, fun h0 => absurd h0 (by omega)⟩
  · cases hv
    refine ⟨hl, h64, hf, fun _ => ⟨g, 0, rfl, fun i q hi => ?_⟩⟩
    obtain ⟨r1, r2⟩ := refCells_get fs i q hi
    simp only [Nat.zero_add]
    exact ⟨(owned_cells h _ _ r1).1, (owned_cells h _ _ r2).1⟩
/-- What know leaves. -/
def KnowPost (o : Option (List Rf)) (w : World) (e : Ending) (w' : World) : Prop :=
  ∃ (v : Value) (fs : List Rv), e = .returned (.tuple #[v, .bool o.isSome]) ∧ (∀ k, o = some k → fs.map Rv.P = k) ∧ w'.ownsRow w.heap.size 83 2 v fs.length (refCells fs) ∧ fs.length ≤ 64 ∧ (∀ f ∈ fs, rvOk f ∧ f.1.size ≤ 64) ∧ Below w.heap.size w w'
theorem knowGo_at {qs : List Sq} {j : Nat} {q : Sq} (h : qs[j]? = some q) (done : List Rf) : knowGo done ((qs.drop j).map Sq.P) = if (findB done q.P.1).isSome = true ∨ seqOkB q.P = false then none else knowGo (done ++ [refOf q.P]) ((qs.drop (j + 1)).map Sq.P) := by
  obtain ⟨hlt, he⟩ := List.getElem?_eq_some_iff.1 h
  rw [List.drop_eq_getElem_cons hlt, he, List.map_cons, knowGo]

set_option maxRecDepth 20000 in
set_option maxHeartbeats 4000000 in
theorem know_calls (ao : Option Addr) (len cap : Nat) (qs : List Sq) (w : World) (hz : SqsAt w ao len qs) (h64 : len ≤ 64) :
    Calls Tryz.prog 37 #[.slice ao len cap] w fun e w' => KnowPost (knowB (qs.map Sq.P)) w e w' := by
  obtain ⟨i0, hi, hz0, hz1, hz2⟩ := info_parts info83
  have HZ : Hid (SqsAt w ao len qs) := hz
  have HZL : Hid (qs.length = len) := hz.length
  clear hz
  go_enter Tryz.func37, Tryz.ntmps37
  go_wp2_with fail
  go_loopw [4, 11] (fun v i wr => ∃ (j : Nat) (fs : List Rv), j ≤ len ∧ i = .int .i64 j ∧ fs.length = j ∧ wr.ownsRow w.heap.size 83 2 v fs.length (refCells fs) ∧ Below w.heap.size w wr ∧ (∀ f ∈ fs, rvOk f ∧ f.1.size ≤ 64) ∧ Hid (knowB (qs.map Sq.P) = knowGo (fs.map Rv.P) ((qs.drop j).map Sq.P))) (fun _ i _ => len - (intOf i).toNat)
  case atStart => exact ⟨0, [], Nat.zero_le _, rfl, rfl, World.ownsRow_nil _ _ _ _, Below.refl _ _, by simp, rfl⟩
  case round =>
    obtain ⟨j, fs, hj, rfl, hfl, hown, hbel, hfine, HK⟩ := hrel
    obtain ⟨vo, vc, rfl⟩ := owned_shape hown
    have HFL : Hid (fs.length = j) := hfl
    have hf64 : fs.length ≤ 64 := by omega
    clear hfl
    have hsw : w.heap.size ≤ wr.heap.size := hbel.size
    have HO : Hid (wr.ownsRow w.heap.size 83 2 (.slice vo fs.length vc) fs.length (refCells fs) ∧ Below w.heap.size w wr) := ⟨hown, hbel⟩
    have HFi : Hid (∀ f ∈ fs, rvOk f ∧ f.1.size ≤ 64) := hfine
    clear hown hbel hfine
    by_cases hlt : j < len
    · have hdk : decide ((j : Int) < (len : Int)) = true := by simp; omega
      obtain ⟨b, off, rfl, hcs⟩ := (HZ.out.below HO.out.2).cells (by omega)
      obtain ⟨q, hq⟩ : ∃ q, qs[j]? = some q := ⟨_, List.getElem?_eq_getElem (by rw [HZL.out]; exact hlt)⟩
      obtain ⟨hc1, hc2, hc3⟩ := hcs j q hq
      have hqs := HZ.out.fine q (List.mem_of_getElem? hq)
      have HKn : Hid (knowB (qs.map Sq.P) = if (findB (fs.map Rv.P) q.P.1).isSome = true ∨ seqOkB q.P = false then none else knowGo (fs.map Rv.P ++ [refOf q.P]) ((qs.drop (j + 1)).map Sq.P)) := by
        show knowB _ = _
        rw [HK.out, knowGo_at hq]
      have HFd : Hid (∀ W, W.ownsRow w.heap.size 83 2 (.slice vo fs.length vc) fs.length (refCells fs) → Calls Tryz.prog 65 #[.slice vo fs.length vc, .string q.1] W fun e w' => FindPost (findB (fs.map Rv.P) q.P.1) W e w') := fun W hW => find_calls vo fs.length vc fs q.1 W (owned_refs hW (by omega) (fun f hf => (HFi.out f hf).1))
      have HMw : Hid (∀ W, Calls Tryz.prog 66 #[.agg #[.string q.1, .string q.2.1, .string q.2.2]] W fun e w' => e = .returned (.bool (seqOkB q.P)) ∧ Below W.heap.size W w') := fun W => mayBeWritten_calls q W hqs
      have hbx : (wr.alloc (.cells #[.string q.1, .string q.2.1, .string q.2.2] 42)).heap[wr.heap.size]? = some (.cells #[.string q.1, .string q.2.1, .string q.2.2] 42 (0, 0)) := heap_alloc_new wr _
      have HA : Hid ((wr.alloc (.cells #[.string q.1, .string q.2.1, .string q.2.2] 42)).ownsRow w.heap.size 83 2 (.slice vo fs.length vc) fs.length (refCells fs) ∧ Below w.heap.size w (wr.alloc (.cells #[.string q.1, .string q.2.1, .string q.2.2] 42)) ∧ (wr.alloc (.cells #[.string q.1, .string q.2.1, .string q.2.2] 42)).heap[wr.heap.size]? = some (.cells #[.string q.1, .string q.2.1, .string q.2.2] 42 (0, 0))) := ⟨owned_below HO.out.1 (below_new wr _), HO.out.2.alloc HO.out.2.size _, hbx⟩
      have hgx : w.heap.size ≤ wr.heap.size := hsw
      clear hcs hq HK hbx HO
      generalize hgb : wr.heap.size = gb at *
      go_wp2_with fail
      refine (HFd.out _ HA.out.1).mono ?_
      rintro e w3 ⟨n3, z3, rfl, hx3, hb3⟩
      have HB3 : Hid (w3.ownsRow w.heap.size 83 2 (.slice vo fs.length vc) fs.length (refCells fs) ∧ Below w.heap.size w w3 ∧ w3.heap[gb]? = some (.cells #[.string q.1, .string q.2.1, .string q.2.2] 42 (0, 0))) := ⟨owned_below HA.out.1 hb3, HA.out.2.1.trans (hb3.mono HA.out.2.1.size), keepB HA.out.2.2 hb3⟩
      have HBa : Hid (∀ o, Below w.heap.size w (w3.alloc o)) := fun o => HB3.out.2.1.alloc HB3.out.2.1.size o
      clear hb3 HFd HA hx3 hc1 hc2 hc3
      cases hfo : (findB (fs.map Rv.P) q.P.1).isSome with
      | true =>
        have HE : Hid (knowB (qs.map Sq.P) = none) := by show _ = _; rw [HKn.out, if_pos (.inl hfo)]
        have HP : Hid (∀ W, Below w.heap.size w W → KnowPost (knowB (qs.map Sq.P)) w (.returned (.tuple #[.slice none 0 0, .bool false])) W) := fun W hW => ⟨_, [], by rw [HE.out]; rfl, (fun k hk => by rw [HE.out] at hk; cases hk), World.ownsRow_nil _ _ _ _, by simp, by simp, hW⟩
        clear HKn HMw hfo
        go_wp2
        go_ret2
        exact HP.out _ (HBa.out _)
      | false =>
        have c0 : ∀ o, (w3.alloc o).cell? ⟨gb, 0, none⟩ = some (.string q.1) := fun o => cellB (keepB HB3.out.2.2 (below_new w3 o)) rfl
        have c1 : ∀ o, (w3.alloc o).cell? ⟨gb, 1, none⟩ = some (.string q.2.1) := fun o => cellB (keepB HB3.out.2.2 (below_new w3 o)) rfl
        have c2 : ∀ o, (w3.alloc o).cell? ⟨gb, 2, none⟩ = some (.string q.2.2) := fun o => cellB (keepB HB3.out.2.2 (below_new w3 o)) rfl
        have HB3a : Hid (∀ o, (w3.alloc o).ownsRow w.heap.size 83 2 (.slice vo fs.length vc) fs.length (refCells fs) ∧ Below w.heap.size w (w3.alloc o) ∧ (w3.alloc o).heap[gb]? = some (.cells #[.string q.1, .string q.2.1, .string q.2.2] 42 (0, 0))) := fun o => ⟨owned_below HB3.out.1 (below_new w3 o), HBa.out o, keepB HB3.out.2.2 (below_new w3 o)⟩
        go_wp2_with fail
        refine (HMw.out _).mono ?_
        rintro e w4 ⟨rfl, hb4⟩
        have HB4 : Hid (w4.ownsRow w.heap.size 83 2 (.slice vo fs.length vc) fs.length (refCells fs) ∧ Below w.heap.size w w4 ∧ w4.heap[gb]? = some (.cells #[.string q.1, .string q.2.1, .string q.2.2] 42 (0, 0))) := ⟨owned_below (HB3a.out _).1 hb4, (HB3a.out _).2.1.trans (hb4.mono (HB3a.out _).2.1.size), keepB (HB3a.out _).2.2 hb4⟩
        clear hb4 HB3a c0 c1 c2 HB3 HMw
        cases hso : seqOkB q.P with
        | false =>
          have HE : Hid (knowB (qs.map Sq.P) = none) := by show _ = _; rw [HKn.out, if_pos (.inr hso)]
          have HP : Hid (∀ W, Below w.heap.size w W → KnowPost (knowB (qs.map Sq.P)) w (.returned (.tuple #[.slice none 0 0, .bool false])) W) := fun W hW => ⟨_, [], by rw [HE.out]; rfl, (fun k hk => by rw [HE.out] at hk; cases hk), World.ownsRow_nil _ _ _ _, by simp, by simp, hW⟩
          clear HKn hfo hso
          go_wp2
          go_ret2
          exact HP.out _ HB4.out.2.1
        | true =>
          have HE : Hid (knowB (qs.map Sq.P) = knowGo ((fs ++ [((q.1, (q.2.2.size : Int)) : Rv)]).map Rv.P) ((qs.drop (j + 1)).map Sq.P)) := by
            show _ = _
            rw [HKn.out, if_neg (by rw [hfo, hso]; simp), List.map_append]
            simp [Rv.P, refOf, Sq.P]
          have hq1 : q.1.size ≤ 64 ∧ q.2.2.size ≤ 65536 := by
            simp only [seqOkB, Bool.and_eq_true, basesB, decide_eq_true_eq] at hso
            have h1 := name_short hso.1
            have h2 := hso.2.2.2.1
            simp only [Sq.P, size_toList] at h1 h2
            exact ⟨h1, h2⟩
          have HFi2 : Hid (∀ f ∈ fs ++ [((q.1, (q.2.2.size : Int)) : Rv)], rvOk f ∧ f.1.size ≤ 64) := by
            intro f hf
            rcases List.mem_append.1 hf with hf | hf
            · exact HFi.out f hf
            · simp at hf; subst hf; exact ⟨⟨by show q.1.size ≤ _; omega, by show (0 : Int) ≤ (q.2.2.size : Int); omega, by show (q.2.2.size : Int) ≤ 65536; omega⟩, hq1.1⟩
          have d0 : w4.cell? ⟨gb, 0, none⟩ = some (.string q.1) := cellB HB4.out.2.2 rfl
          have d2 : w4.cell? ⟨gb, 2, none⟩ = some (.string q.2.2) := cellB HB4.out.2.2 rfl
          have hs4 : w.heap.size ≤ w4.heap.size := HB4.out.2.1.size
          have HA4 : Hid (∀ o, (w4.alloc o).ownsRow w.heap.size 83 2 (.slice vo fs.length vc) fs.length (refCells fs)) := fun o => owned_below HB4.out.1 (below_new w4 o)
          clear HKn hfo hso HFi hqs
          go_wp2_with (at_builtin; go_loud (refine wpList_append_own _ rfl _ _ 69 rfl w.heap.size 83 i0 (.agg #[.string ⟨#[]⟩, .int .i64 0]) 2 24 Tryz.underlying69 hi hz0 hz1 hz2 rfl (by decide) (.slice vo fs.length vc) _ _ rfl (HA4.out _) ⟨_, 0, none⟩ 1 1 (rfCells (q.1, (q.2.2.size : Int))) rfl rfl (cell_rf_new _ _) (rf_oneCell _) (by unfold maxLen; omega) (by omega) (by simp; omega) ?_); intro v' w5 hown' hgrow5 hnil5)
          have HR : Hid (w5.ownsRow w.heap.size 83 2 v' (fs ++ [((q.1, (q.2.2.size : Int)) : Rv)]).length (refCells (fs ++ [((q.1, (q.2.2.size : Int)) : Rv)])) ∧ Below w.heap.size w w5) := by
            refine ⟨?_, ?_⟩
            · rw [refCells_snoc, List.length_append]; exact hown'
            · exact (HB4.out.2.1.alloc HB4.out.2.1.size _).grown hgrow5 (by simp; omega) (fun k hk => (HB4.out.1.lt k hk).1)
          clear hown' hgrow5 hnil5 HB4 HA4 d0 d2
          go_wp2
          go_roundw
          case rel => exact ⟨j + 1, fs ++ [((q.1, (q.2.2.size : Int)) : Rv)], by omega, by go_num, by rw [List.length_append, HFL.out]; rfl, HR.out.1, HR.out.2, HFi2.out, HE.out⟩
          case measure => simp [intOf]; omega
    · have hdk : decide ((j : Int) < (len : Int)) = false := by simp; omega
      have HE : Hid (knowB (qs.map Sq.P) = some (fs.map Rv.P)) := by
        show _ = _
        rw [HK.out, List.drop_eq_nil_of_le (by rw [HZL.out]; omega)]; rfl
      have HP : Hid (KnowPost (knowB (qs.map Sq.P)) w (.returned (.tuple #[.slice vo fs.length vc, .bool true])) wr) := ⟨_, fs, by rw [HE.out]; rfl, (fun k hk => by rw [HE.out] at hk; cases hk; rfl), HO.out.1, by omega, HFi.out, HO.out.2⟩
      go_wp2
      go_ret2
      exact HP.out
end Go.Proofs.YtdhphipdpjhhbaaGreatDoor
