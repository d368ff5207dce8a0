/-
  The places of definitions, where they lie.
-/
import Derived.Test.YtolehoibpnenlabPsD
import Derived.Test.YtolehoibpnenlabDrw
namespace Go.Proofs.Ytolehoibpnenlab
open Go.RowKit Go.Deep Go.Maps

theorem info76 : (Try.prog.info? 64).map (fun i => (i.zero, i.size, i.bytes)) = some (some (.pointer none), 1, 8) := by kernel_rfl
def ptRow (l : List Addr) : List Value := l.map fun a => .pointer (some a)
def blkOf (ao : Option Addr) : Nat := match ao with | some a => a.block | none => 0
def eaF (g : Nat) : Nat → List (Int × Int) → List Addr
  | _, [] => []
  | i, e :: r => (if e.2 = -1 then [] else [⟨g, i * 2 + 1, none⟩]) ++ eaF g (i + 1) r
def eaS : List Sr → List St → List Addr
  | r :: sl, s :: l => eaF (blkOf r.2.1) 0 s.2 ++ eaS sl l
  | _, _ => []
def suL (g n : Nat) : List Addr := (List.range n).map fun k => ⟨g, k, none⟩
def adL (wb : Nat) (x : Rc) (y : Ly) : List Addr := ⟨wb, 5, none⟩ :: ⟨wb, 6, none⟩ :: (suL (blkOf y.sa) x.subst.length ++ eaS y.sl x.states)
theorem eaF_snoc (g : Nat) : ∀ (l : List (Int × Int)) (i : Nat) (e : Int × Int), eaF g i (l ++ [e]) = eaF g i l ++ (if e.2 = -1 then [] else [⟨g, (i + l.length) * 2 + 1, none⟩])
  | [], i, e => by simp [eaF]
  | a :: r, i, e => by
    rw [List.cons_append, eaF, eaF, eaF_snoc g r (i + 1) e, List.append_assoc, show i + 1 + r.length = i + (a :: r).length by simp; omega]
theorem eaS_snoc : ∀ (sl : List Sr) (l : List St) (r : Sr) (s : St), sl.length = l.length → eaS (sl ++ [r]) (l ++ [s]) = eaS sl l ++ eaF (blkOf r.2.1) 0 s.2
  | [], [], r, s, _ => by simp [eaS]
  | a :: sl, b :: l, r, s, h => by
    rw [List.cons_append, List.cons_append, eaS, eaS, eaS_snoc sl l r s (by simpa using h), List.append_assoc]
  | [], _ :: _, _, _, h => by simp at h
  | _ :: _, [], _, _, h => by simp at h
theorem eaF_len (g : Nat) : ∀ (l : List (Int × Int)) (i : Nat), (eaF g i l).length ≤ l.length
  | [], _ => by simp [eaF]
  | a :: r, i => by
    have := eaF_len g r (i + 1)
    rw [eaF, List.length_append, List.length_cons]
    split <;> simp <;> omega
theorem eaS_len : ∀ (sl : List Sr) (l : List St), (∀ s ∈ l, s.2.length ≤ 100) → (eaS sl l).length ≤ l.length * 100
  | [], l, _ => by simp [eaS]
  | _ :: _, [], _ => by simp [eaS]
  | r :: sl, s :: l, h => by
    have h1 := eaS_len sl l (fun t ht => h t (List.mem_cons_of_mem _ ht))
    have h2 := eaF_len (blkOf r.2.1) s.2 0
    have h3 := h s (by simp)
    rw [eaS, List.length_append, List.length_cons]
    omega
/-- So far. -/
structure Pl (w wr : World) (A : List Addr) (v : Value) : Prop where
  own : wr.ownsRow w.heap.size 64 1 v A.length (ptRow A)
  low : Below w.heap.size w wr
theorem Pl.next {w wr w' : World} {A : List Addr} {v : Value} (h : Pl w wr A v) (hb : Below wr.heap.size wr w') : Pl w w' A v := ⟨owned_below h.own hb, h.low.trans (hb.mono h.low.size)⟩
theorem pt_new (W : World) (a : Addr) : SrcAt (W.alloc (.cells #[.pointer (some a)] 64)) (some ⟨W.heap.size, 0, none⟩) 1 1 [.pointer (some a)] := by
  refine ⟨rfl, fun u hu => ?_, .inr ⟨_, rfl, cells_new W [.pointer (some a)] 64⟩⟩
  obtain rfl := List.mem_singleton.1 hu
  rfl
theorem Pl.more {w wr w5 : World} {A : List Addr} {v : Value} {a : Addr} (h : Pl w wr A v) {v' : Value} (ho : w5.ownsRow w.heap.size 64 1 v' (A.length + 1) (ptRow A ++ [.pointer (some a)])) (hg : wr.grownBy w5 v.ownBlock) : Pl w w5 (A ++ [a]) v' := by
  refine ⟨?_, h.low.grown hg h.low.size (fun k hk => ?_)⟩
  · rw [List.length_append]; simpa [ptRow] using ho
  · rcases h.own.2 with ⟨hv, _⟩ | ⟨g', cap', cur, hv, hb', _⟩
    · rw [hv] at hk; cases hk
    · rw [hv] at hk; simp [Value.ownBlock] at hk; omega
set_option maxRecDepth 20000 in
set_option maxHeartbeats 4000000 in
theorem places_calls2 (w : World) (base wb : Nat) (x : Rc) (vs : List Int) (y : Ly) (h : WkAt w base wb x vs y) (hr : rightR x = true) :
    Calls Try.prog 32 #[.pointer (some ⟨wb, 0, none⟩)] w fun e w' => ∃ v, e = .returned v ∧ Pl w w' (adL wb x y) v := by
  have HW : Hid (∀ W, Below w.heap.size w W → WkAt W base wb x vs y) := fun W hW => h.below hW
  have HR : Hid (rightR x = true) := hr
  obtain ⟨i0, hi, hz0, hz1, hz2⟩ := info_parts info76
  have hsn : x.subst.length ≤ 400 := (right_subst hr).1
  have htn : x.states.length ≤ 9 := (right_states hr).1
  obtain ⟨sn, hsnE⟩ : ∃ sn, x.subst.length = sn := ⟨_, rfl⟩
  obtain ⟨tn, htnE⟩ : ∃ tn, x.states.length = tn := ⟨_, rfl⟩
  rw [hsnE] at hsn
  rw [htnE] at htn
  obtain ⟨sg, sc, hsa, _⟩ := owned_some h.subst (by have := (right_subst hr).2.1; omega)
  have HSA : Hid (Value.slice y.sa x.subst.length y.sc = .slice (some ⟨sg, 0, none⟩) x.subst.length sc) := hsa
  have HL : Hid (x.subst.length = sn ∧ x.states.length = tn) := ⟨hsnE, htnE⟩
  have hc2 : ∀ W, Below w.heap.size w W → W.cell? ⟨wb, 2, none⟩ = some (.slice (some ⟨sg, 0, none⟩) sn sc) := fun W hW => by
    rw [← HL.out.1, ← HSA.out]; exact (HW.out W hW).cell 2 _ rfl
  have HC2 : Hid (∀ W, Below w.heap.size w W → W.cell? ⟨wb, 2, none⟩ = some (.slice (some ⟨sg, 0, none⟩) sn sc)) := hc2
  have hc10 : ∀ W, Below w.heap.size w W → W.cell? ⟨wb, 10, none⟩ = some (.slice y.ta tn y.tc) := fun W hW => by
    rw [← HL.out.2]; exact (HW.out W hW).cell 10 _ rfl
  have HC10 : Hid (∀ W, Below w.heap.size w W → W.cell? ⟨wb, 10, none⟩ = some (.slice y.ta tn y.tc)) := hc10
  clear h hr hsnE htnE hsa hc2 hc10
  go_enter Try.func32, Try.ntmps32
  go_wp2_with fail
  refine wp_region_Y (fun j => [].contains j) (fun W : World => True) (by kernel_rfl) ?_
  refine wpAnyY_pure (i := 0) 8 (v := .pointer (some ⟨wb, 0, none⟩)) rfl rfl (by kernel_rfl) (by kernel_rfl) (by kernel_rfl) (fun _ _ _ h => h) (Or.inl ⟨by rfl, by (intro W _; go_simp)⟩) ?_
  simp only [Act.put, List.setIfInBounds_toArray, List.set_cons_succ, List.set_cons_zero]
  refine wpAnyY_pure (i := 1) 9 (v := .pointer (some ⟨wb, 0, none⟩)) rfl rfl (by kernel_rfl) (by kernel_rfl) (by kernel_rfl) (fun _ _ _ h => h) (Or.inl ⟨by rfl, by (intro W _; go_simp)⟩) ?_
  simp only [Act.put, List.setIfInBounds_toArray, List.set_cons_succ, List.set_cons_zero]
  refine wpAnyY_pure (i := 2) 10 (v := .pointer (some ⟨wb, 0, none⟩)) rfl rfl (by kernel_rfl) (by kernel_rfl) (by kernel_rfl) (fun _ _ _ h => h) (Or.inl ⟨by rfl, by (intro W _; go_simp)⟩) ?_
  simp only [Act.put, List.setIfInBounds_toArray, List.set_cons_succ, List.set_cons_zero]
  refine wpAnyY_pure (i := 3) 11 (v := .pointer (some ⟨wb, 5, none⟩)) rfl rfl (by kernel_rfl) (by kernel_rfl) (by kernel_rfl) (fun _ _ _ h => h) (Or.inl ⟨by rfl, by (intro W _; go_simp)⟩) ?_
  simp only [Act.put, List.setIfInBounds_toArray, List.set_cons_succ, List.set_cons_zero]
  refine wpAnyY_pure (i := 4) 12 (v := .pointer (some ⟨wb, 0, none⟩)) rfl rfl (by kernel_rfl) (by kernel_rfl) (by kernel_rfl) (fun _ _ _ h => h) (Or.inl ⟨by rfl, by (intro W _; go_simp)⟩) ?_
  simp only [Act.put, List.setIfInBounds_toArray, List.set_cons_succ, List.set_cons_zero]
  refine wpAnyY_pure (i := 5) 13 (v := .pointer (some ⟨wb, 0, none⟩)) rfl rfl (by kernel_rfl) (by kernel_rfl) (by kernel_rfl) (fun _ _ _ h => h) (Or.inl ⟨by rfl, by (intro W _; go_simp)⟩) ?_
  simp only [Act.put, List.setIfInBounds_toArray, List.set_cons_succ, List.set_cons_zero]
  refine wpAnyY_pure (i := 6) 14 (v := .pointer (some ⟨wb, 0, none⟩)) rfl rfl (by kernel_rfl) (by kernel_rfl) (by kernel_rfl) (fun _ _ _ h => h) (Or.inl ⟨by rfl, by (intro W _; go_simp)⟩) ?_
  simp only [Act.put, List.setIfInBounds_toArray, List.set_cons_succ, List.set_cons_zero]
  refine wpAnyY_pure (i := 7) 15 (v := .pointer (some ⟨wb, 6, none⟩)) rfl rfl (by kernel_rfl) (by kernel_rfl) (by kernel_rfl) (fun _ _ _ h => h) (Or.inl ⟨by rfl, by (intro W _; go_simp)⟩) ?_
  simp only [Act.put, List.setIfInBounds_toArray, List.set_cons_succ, List.set_cons_zero]
  refine wpAnyY_one (i := 8) rfl (by kernel_rfl) (fun K hK => ?_)
  go_simp
  refine hK.out _ _ (fun _ _ => trivial) ?_
  clear hK K
  refine wpAnyY_one (i := 9) rfl (by kernel_rfl) (fun K hK => ?_)
  go_simp
  refine hK.out _ _ (fun _ _ => trivial) ?_
  clear hK K
  refine wpAnyY_done (by kernel_rfl) ?_ _
  obtain ⟨w2, hw2⟩ : ∃ w2, w2 = (w.alloc (.cells #[.pointer (some ⟨wb, 5, none⟩), .pointer (some ⟨wb, 6, none⟩)] 64)).drew := ⟨_, rfl⟩
  have HP : Hid (Pl w w2 [⟨wb, 5, none⟩, ⟨wb, 6, none⟩] (.slice (some ⟨w.heap.size, 0, none⟩) 2 2)) := by
    rw [hw2]
    refine ⟨⟨rfl, .inr ⟨w.heap.size, 2, _, rfl, Nat.le_refl _, heap_alloc_new w _, by simp, by unfold maxLen; simp, by simp, rfl⟩⟩, ((Below.refl _ _).alloc (Nat.le_refl _) _).drew⟩
  rw [← hw2]
  clear hw2
  have c2 := HC2.out w2 HP.out.low
  go_wp2
  go_loopg [3, 4, 23] sn (fun q av _ iv wr => ∃ (k : Nat), k + q = sn ∧ iv = .int .i64 k ∧ Hid (Pl w wr (⟨wb, 5, none⟩ :: ⟨wb, 6, none⟩ :: suL sg k) av))
  case atStart => exact ⟨0, by omega, rfl, HP.out⟩
  case round =>
    clear HP c2
    obtain ⟨k, hkq, rfl, HP⟩ := hrel
    by_cases hlt : k < sn
    · have c2 := HC2.out wr HP.out.low
      obtain ⟨A, hA⟩ : ∃ A, A = ((⟨wb, 5, none⟩ : Addr) :: ⟨wb, 6, none⟩ :: suL sg k) := ⟨_, rfl⟩
      have HAE : Hid (A ++ [⟨sg, k, none⟩] = (⟨wb, 5, none⟩ : Addr) :: ⟨wb, 6, none⟩ :: suL sg (k + 1) ∧ A.length ≤ 500) := by
        rw [hA]; refine ⟨by simp [suL, List.range_succ], by simp [suL]; omega⟩
      rw [← hA] at HP
      clear hA
      obtain ⟨ao, cap, rfl⟩ := owned_shape HP.out.own
      obtain ⟨m, hm⟩ : ∃ m, A.length = m := ⟨_, rfl⟩
      have HP2 : Hid (Pl w (wr.alloc (.cells #[.pointer (some ⟨sg, k, none⟩)] 64)) A (.slice ao m cap)) := by rw [← hm]; exact HP.out.next ((Below.refl _ _).alloc (Nat.le_refl _) _)
      have HM : Hid (A.length = m) := hm
      have hm5 : m ≤ 500 := by rw [← hm]; exact HAE.out.2
      rw [hm]
      clear hm HP
      have hk0 : decide ((k : Int) < (sn : Int)) = true := by simp; omega
      go_wp2_with (at_builtin; refine wpList_append_opt rfl _ _ 62 rfl w.heap.size 64 i0 _ 1 8 Try.underlying62 hi hz0 hz1 hz2 rfl (by decide) (.slice ao m cap) m (ptRow A) rfl (by rw [← HM.out]; exact HM.out ▸ HP2.out.own) (some ⟨wr.heap.size, 0, none⟩) 1 1 [.pointer (some ⟨sg, k, none⟩)] rfl (pt_new _ _) (by unfold maxLen; omega) (by omega) (by simpa using HP2.out.low.size) ?_)
      intro v' w5 ho hg
      have HN : Hid (Pl w w5 (A ++ [⟨sg, k, none⟩]) v') := HP2.out.more (by rw [HM.out]; exact ho) hg
      clear ho hg HP2
      rw [HAE.out.1] at HN
      go_wp2
      go_roundg (gk - 1)
      case measure => omega
      case rel => exact ⟨k + 1, by omega, by go_num, HN.out⟩
    · obtain rfl : k = sn := by omega
      have c10 := HC10.out wr HP.out.low
      have hk0 : decide ((k : Int) < (k : Int)) = false := by simp
      go_wp2
      go_loopg [3, 6, 7, 43, 50] tn (fun q av _ _ iv _ wr => ∃ (i : Nat), i + q = tn ∧ iv = .int .i64 i ∧ Hid (Pl w wr (⟨wb, 5, none⟩ :: ⟨wb, 6, none⟩ :: (suL sg k ++ eaS (y.sl.take i) (x.states.take i))) av))
      case atStart => exact ⟨0, by omega, rfl, by show Pl _ _ _ _; simpa [eaS] using HP.out⟩
      case round =>
        clear HP c10
        obtain ⟨i, hiq, rfl, HP⟩ := hrel
        obtain ⟨wo, rfl⟩ : ∃ wo, wo = wr := ⟨_, rfl⟩
        obtain ⟨av, rfl⟩ : ∃ av, av = u3 := ⟨_, rfl⟩
        obtain ⟨gO, rfl⟩ : ∃ gO, gO = gk := ⟨_, rfl⟩
        by_cases hin : i < tn
        · have hW := HW.out wo HP.out.low
          obtain ⟨tg, tcc, hta0, _⟩ := owned_some hW.states (by rw [HL.out.2]; omega)
          have hta : y.ta = some ⟨tg, 0, none⟩ := by injection hta0
          obtain ⟨rr, hrr⟩ : ∃ rr, y.sl[i]? = some rr := ⟨y.sl[i]'(by rw [hW.rows.1, HL.out.2]; exact hin), List.getElem?_eq_getElem _⟩
          obtain ⟨ss, hss⟩ : ∃ ss, x.states[i]? = some ss := ⟨x.states[i]'(by rw [HL.out.2]; exact hin), List.getElem?_eq_getElem _⟩
          obtain ⟨kd, ea, en, ec⟩ := rr
          obtain ⟨hk1, hk2, hk3, _⟩ := hW.rows.2 i _ ss hrr hss
          simp only at hk1 hk2
          have hen : en ≤ 100 := by omega
          have HE : Hid (∀ W, Below w.heap.size w W → W.ownsRow base 42 2 (.slice ea en ec) en (pcRow ss.2)) := fun W hB => ((HW.out W hB).rows.2 i _ ss hrr hss).2.2.2
          have hst := hW.states
          rw [hta] at hst
          have t0 : wo.cell? ⟨tg, i * 2, none⟩ = some (.int .i64 kd) := (owned_cells hst (i * 2 + 0) _ (flat_get (f := srCells) (s := 2) (fun _ => rfl) y.sl i _ 0 _ hrr rfl)).1
          have t1 : wo.cell? ⟨tg, i * 2 + 1, none⟩ = some (.slice ea en ec) := (owned_cells hst (i * 2 + 1) _ (flat_get (f := srCells) (fun _ => rfl) y.sl i _ 1 _ hrr rfl)).1
          have HEX : Hid (eaS (y.sl.take (i + 1)) (x.states.take (i + 1)) = eaS (y.sl.take i) (x.states.take i) ++ eaF (blkOf ea) 0 ss.2) := by
            show _ = _
            have h1 := (List.getElem?_eq_some_iff.1 hrr)
            have h2 := (List.getElem?_eq_some_iff.1 hss)
            rw [List.take_succ_eq_append_getElem h1.1, List.take_succ_eq_append_getElem h2.1, h1.2, h2.2, eaS_snoc _ _ _ _ (by simp [hW.rows.1])]
          have HLN : Hid (ss.2.length = en) := hk2.symm
          obtain ⟨B, hB⟩ : ∃ B, B = ((⟨wb, 5, none⟩ : Addr) :: ⟨wb, 6, none⟩ :: (suL sg k ++ eaS (y.sl.take i) (x.states.take i))) := ⟨_, rfl⟩
          have HBL : Hid (B.length ≤ 2000 ∧ B ++ eaF (blkOf ea) 0 ss.2 = (⟨wb, 5, none⟩ : Addr) :: ⟨wb, 6, none⟩ :: (suL sg k ++ eaS (y.sl.take (i + 1)) (x.states.take (i + 1)))) := by
            rw [hB]
            refine ⟨?_, by rw [HEX.out]; simp [List.append_assoc]⟩
            have h1 := eaS_len (y.sl.take i) (x.states.take i) (fun s hs => right_edges HR.out s (List.mem_of_mem_take hs))
            simp [suL] at h1 ⊢
            omega
          rw [← hB] at HP
          clear hB hW hst hta0 hrr hss hk1 hk2 hk3 HEX
          have HTA : Hid (y.ta = some ⟨tg, 0, none⟩) := hta
          rw [hta]
          clear hta
          have hin0 : decide ((i : Int) < (tn : Int)) = true := by simp; omega
          have HP1 : Hid (Pl w (wo.alloc (.cells #[.int .i64 kd, .slice ea en ec] 39)) B av) := HP.out.next ((Below.refl _ _).alloc (Nat.le_refl _) _)
          go_wp2
          go_loopg [3, 7, 50] en (fun q bv _ iv wr => ∃ (j : Nat), j + q = en ∧ iv = .int .i64 j ∧ Hid (Pl w wr (B ++ eaF (blkOf ea) 0 (ss.2.take j)) bv ∧ wr.heap[wo.heap.size]? = some (.cells #[.int .i64 kd, .slice ea en ec] 39 (0, 0))))
          case atStart => exact ⟨0, by omega, rfl, by simpa [eaF] using HP1.out, heap_alloc_new wo _⟩
          case round =>
            clear HP1
            obtain ⟨j, hjq, rfl, HQ⟩ := hrel
            obtain ⟨bv, rfl⟩ : ∃ bv, bv = u3 := ⟨_, rfl⟩
            by_cases hjn : j < en
            · have hE := HE.out wr HQ.out.1.low
              obtain ⟨eg, ecc, hea0, _⟩ := owned_some hE (by omega)
              obtain ⟨rfl, rfl⟩ : ea = some ⟨eg, 0, none⟩ ∧ ecc = ec := by cases hea0; exact ⟨rfl, rfl⟩
              obtain ⟨ed, hed⟩ : ∃ ed, ss.2[j]? = some ed := ⟨ss.2[j]'(by rw [HLN.out]; exact hjn), List.getElem?_eq_getElem _⟩
              have e1 : wr.cell? ⟨eg, j * 2 + 1, none⟩ = some (.int .i64 ed.2) := (owned_cells hE (j * 2 + 1) _ (flat_get (f := pcCells) (fun _ => rfl) ss.2 j _ 1 _ hed rfl)).1
              have b1 : wr.cell? ⟨wo.heap.size, 1, none⟩ = some (.slice (some ⟨eg, 0, none⟩) en ecc) := blk HQ.out.2 rfl
              have HSN : Hid (eaF eg 0 (ss.2.take (j + 1)) = eaF eg 0 (ss.2.take j) ++ (if ed.2 = -1 then [] else [⟨eg, j * 2 + 1, none⟩])) := by
                show _ = _
                obtain ⟨h1, h2⟩ := List.getElem?_eq_some_iff.1 hed
                rw [List.take_succ_eq_append_getElem h1, h2, eaF_snoc]
                simp [Nat.min_eq_left (Nat.le_of_lt h1)]
              have HJL : Hid ((B ++ eaF eg 0 (ss.2.take j)).length ≤ 2200) := by
                show _ ≤ _
                have h1 := eaF_len eg (ss.2.take j) 0
                have h2 := HBL.out.1
                rw [List.length_append]
                simp at h1
                omega
              have hj0 : decide ((j : Int) < (en : Int)) = true := by simp; omega
              clear hE hea0 hed
              by_cases hc : ed.2 = -1
              · rw [hc] at e1
                rw [if_pos hc, List.append_nil] at HSN
                clear hc
                go_wp2
                go_roundg (gk - 1)
                case measure => omega
                case rel => exact ⟨j + 1, by omega, by go_num, by show Pl _ _ (B ++ eaF eg 0 _) _; rw [HSN.out]; exact HQ.out.1, HQ.out.2⟩
              · rw [if_neg hc] at HSN
                obtain ⟨C, hC⟩ : ∃ C, C = B ++ eaF eg 0 (ss.2.take j) := ⟨_, rfl⟩
                have HQ1 : Hid (Pl w wr C bv ∧ wr.heap[wo.heap.size]? = some (.cells #[.int .i64 kd, .slice (some ⟨eg, 0, none⟩) en ecc] 39 (0, 0))) := by rw [hC]; exact HQ.out
                have HSC : Hid (B ++ eaF eg 0 (ss.2.take (j + 1)) = C ++ [⟨eg, j * 2 + 1, none⟩]) := by rw [hC, HSN.out]; simp [List.append_assoc, Hid]
                rw [← hC] at HJL
                clear hC HQ HSN
                obtain ⟨ao, cap, rfl⟩ := owned_shape HQ1.out.1.own
                obtain ⟨m, hm⟩ : ∃ m, C.length = m := ⟨_, rfl⟩
                have HP2 : Hid (Pl w (wr.alloc (.cells #[.pointer (some ⟨eg, j * 2 + 1, none⟩)] 64)) C (.slice ao m cap)) := by rw [← hm]; exact HQ1.out.1.next ((Below.refl _ _).alloc (Nat.le_refl _) _)
                have HHB : Hid (∀ o, (wr.alloc o).heap[wo.heap.size]? = some (.cells #[.int .i64 kd, .slice (some ⟨eg, 0, none⟩) en ecc] 39 (0, 0))) := fun o => by
                  rw [((Below.refl wr.heap.size wr).alloc (Nat.le_refl _) o).block _ (lt_block HQ1.out.2)]; exact HQ1.out.2
                have HM : Hid (C.length = m) := hm
                have hm5 : m ≤ 2200 := by rw [← hm]; exact HJL.out
                rw [hm]
                clear hm HQ1
                go_wp2_with (at_builtin; refine wpList_append_opt rfl _ _ 62 rfl w.heap.size 64 i0 _ 1 8 Try.underlying62 hi hz0 hz1 hz2 rfl (by decide) (.slice ao m cap) m (ptRow C) rfl (HM.out ▸ HP2.out.own) (some ⟨wr.heap.size, 0, none⟩) 1 1 [.pointer (some ⟨eg, j * 2 + 1, none⟩)] rfl (pt_new _ _) (by unfold maxLen; omega) (by omega) (by simpa using HP2.out.low.size) ?_)
                intro v' w5 ho hg
                have HN : Hid (Pl w w5 (C ++ [⟨eg, j * 2 + 1, none⟩]) v' ∧ w5.heap[wo.heap.size]? = some (.cells #[.int .i64 kd, .slice (some ⟨eg, 0, none⟩) en ecc] 39 (0, 0))) := by
                  refine ⟨HP2.out.more (by rw [HM.out]; exact ho) hg, ?_⟩
                  have hb0 := HHB.out (.cells #[.pointer (some ⟨eg, j * 2 + 1, none⟩)] 64)
                  rw [hg.block _ (lt_block hb0) (fun e => by
                    rcases HP2.out.own.2 with ⟨hv, _⟩ | ⟨g', cap', cur, hv, _, hg', _⟩
                    · cases hv; cases e
                    · cases hv; simp [Value.ownBlock] at e; rw [e, hg'] at hb0; cases hb0)]
                  exact hb0
                clear ho hg HP2 HHB
                go_wp2
                go_roundg (gk - 1)
                case measure => omega
                case rel => exact ⟨j + 1, by omega, by go_num, by show Pl _ _ (B ++ eaF eg 0 _) _; rw [HSC.out]; exact HN.out.1, HN.out.2⟩
            · have hje : j = en := by omega
              have hj0 : decide ((j : Int) < (en : Int)) = false := by simp; omega
              have HZ : Hid (Pl w wr ((⟨wb, 5, none⟩ : Addr) :: ⟨wb, 6, none⟩ :: (suL sg k ++ eaS (y.sl.take (i + 1)) (x.states.take (i + 1)))) bv) := by
                have := HQ.out.1
                rw [List.take_of_length_le (by rw [HLN.out]; omega), HBL.out.2] at this
                exact this
              clear HQ hje
              go_wp2
              rw [← HTA.out]
              go_roundg (gO - 1)
              case measure => omega
              case rel => exact ⟨i + 1, by omega, by go_num, HZ.out⟩
        · obtain rfl : i = tn := by omega
          have hk0 : decide ((i : Int) < (i : Int)) = false := by simp
          go_wp2
          go_ret
          refine ⟨_, rfl, ?_⟩
          have hp := HP.out
          rw [List.take_of_length_le (by rw [(HW.out wo hp.low).rows.1, HL.out.2]; exact Nat.le_refl _), List.take_of_length_le (by rw [HL.out.2]; exact Nat.le_refl _)] at hp
          unfold adL
          have hsa : blkOf y.sa = sg := by
            have := HSA.out
            injection this with h1
            rw [h1]; rfl
          rw [hsa, HL.out.1]
          exact hp
end Go.Proofs.Ytolehoibpnenlab
