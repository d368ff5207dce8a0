/-
  The places of definitions, where they lie. Places renewed where they lie. A work whose places are renewed.
-/
import Derived.Test.YtolehoibpnenlabDrw
import Derived.Test.YtolehoibpnenlabPsD
namespace Go.Proofs.Ytolehoibpnenlab
open Go.RowKit Go.Deep Go.Maps

theorem info76 : (Try.prog.info? 64).map (fun i => (i.zero, i.size, i.bytes)) = some (some (.pointer none), 1, 8) := by kernel_rfl
def ptRow (l : List Addr) : List Value := l.map fun a => .pointer (some a)
def blkOf (ao : Option Addr) : Nat := match ao with | some a => a.block | none => 0
def eaF (g : Nat) : Nat → List (Int × Int) → List Addr
  | _, [] => []
  | i, e :: r => (if e.2 = -1 then [] else [⟨g, i * 2 + 1, none⟩]) ++ eaF g (i + 1) r
def eaS : List Sr → List St → List Addr
  | r :: sl, s :: l => eaF (blkOf r.2.1) 0 s.2 ++ eaS sl l
  | _, _ => []
def suL (g n : Nat) : List Addr := (List.range n).map fun k => ⟨g, k, none⟩
def adL (wb : Nat) (x : Rc) (y : Ly) : List Addr := ⟨wb, 5, none⟩ :: ⟨wb, 6, none⟩ :: (suL (blkOf y.sa) x.subst.length ++ eaS y.sl x.states)
theorem eaF_snoc (g : Nat) : ∀ (l : List (Int × Int)) (i : Nat) (e : Int × Int), eaF g i (l ++ [e]) = eaF g i l ++ (if e.2 = -1 then [] else [⟨g, (i + l.length) * 2 + 1, none⟩])
  | [], i, e => by simp [eaF]
  | a :: r, i, e => by
    rw [List.cons_append, eaF, eaF, eaF_snoc g r (i + 1) e, List.append_assoc, show i + 1 + r.length = i + (a :: r).length by simp; omega]
theorem eaS_snoc : ∀ (sl : List Sr) (l : List St) (r : Sr) (s : St), sl.length = l.length → eaS (sl ++ [r]) (l ++ [s]) = eaS sl l ++ eaF (blkOf r.2.1) 0 s.2
  | [], [], r, s, _ => by simp [eaS]
  | a :: sl, b :: l, r, s, h => by
    rw [List.cons_append, List.cons_append, eaS, eaS, eaS_snoc sl l r s (by simpa using h), List.append_assoc]
  | [], _ :: _, _, _, h => by simp at h
  | _ :: _, [], _, _, h => by simp at h
theorem eaF_len (g : Nat) : ∀ (l : List (Int × Int)) (i : Nat), (eaF g i l).length ≤ l.length
  | [], _ => by simp [eaF]
  | a :: r, i => by
    have := eaF_len g r (i + 1)
    rw [eaF, List.length_append, List.length_cons]
    split <;> simp <;> omega
theorem eaS_len : ∀ (sl : List Sr) (l : List St), (∀ s ∈ l, s.2.length ≤ 100) → (eaS sl l).length ≤ l.length * 100
  | [], l, _ => by simp [eaS]
  | _ :: _, [], _ => by simp [eaS]
  | r :: sl, s :: l, h => by
    have h1 := eaS_len sl l (fun t ht => h t (List.mem_cons_of_mem _ ht))
    have h2 := eaF_len (blkOf r.2.1) s.2 0
    have h3 := h s (by simp)
    rw [eaS, List.length_append, List.length_cons]
    omega
/-- So far. -/
structure Pl (w wr : World) (A : List Addr) (v : Value) : Prop where
  own : wr.ownsRow w.heap.size 64 1 v A.length (ptRow A)
  low : Below w.heap.size w wr
theorem Pl.next {w wr w' : World} {A : List Addr} {v : Value} (h : Pl w wr A v) (hb : Below wr.heap.size wr w') : Pl w w' A v := ⟨owned_below h.own hb, h.low.trans (hb.mono h.low.size)⟩
theorem pt_new (W : World) (a : Addr) : SrcAt (W.alloc (.cells #[.pointer (some a)] 64)) (some ⟨W.heap.size, 0, none⟩) 1 1 [.pointer (some a)] := by
  refine ⟨rfl, fun u hu => ?_, .inr ⟨_, rfl, cells_new W [.pointer (some a)] 64⟩⟩
  obtain rfl := List.mem_singleton.1 hu
  rfl
theorem Pl.more {w wr w5 : World} {A : List Addr} {v : Value} {a : Addr} (h : Pl w wr A v) {v' : Value} (ho : w5.ownsRow w.heap.size 64 1 v' (A.length + 1) (ptRow A ++ [.pointer (some a)])) (hg : wr.grownBy w5 v.ownBlock) : Pl w w5 (A ++ [a]) v' := by
  refine ⟨?_, h.low.grown hg h.low.size (fun k hk => ?_)⟩
  · rw [List.length_append]; simpa [ptRow] using ho
  · rcases h.own.2 with ⟨hv, _⟩ | ⟨g', cap', cur, hv, hb', _⟩
    · rw [hv] at hk; cases hk
    · rw [hv] at hk; simp [Value.ownBlock] at hk; omega
set_option maxRecDepth 20000 in
set_option maxHeartbeats 4000000 in
theorem places_calls2 (w : World) (base wb : Nat) (x : Rc) (vs : List Int) (y : Ly) (h : WkAt w base wb x vs y) (hr : rightR x = true) :
    Calls Try.prog 32 #[.pointer (some ⟨wb, 0, none⟩)] w fun e w' => ∃ v, e = .returned v ∧ Pl w w' (adL wb x y) v := by
  have HW : Hid (∀ W, Below w.heap.size w W → WkAt W base wb x vs y) := fun W hW => h.below hW
  have HR : Hid (rightR x = true) := hr
  obtain ⟨i0, hi, hz0, hz1, hz2⟩ := info_parts info76
  have hsn : x.subst.length ≤ 400 := (right_subst hr).1
  have htn : x.states.length ≤ 9 := (right_states hr).1
  obtain ⟨sn, hsnE⟩ : ∃ sn, x.subst.length = sn := ⟨_, rfl⟩
  obtain ⟨tn, htnE⟩ : ∃ tn, x.states.length = tn := ⟨_, rfl⟩
  rw [hsnE] at hsn
  rw [htnE] at htn
  obtain ⟨sg, sc, hsa, _⟩ := owned_some h.subst (by have := (right_subst hr).2.1; omega)
  have HSA : Hid (Value.slice y.sa x.subst.length y.sc = .slice (some ⟨sg, 0, none⟩) x.subst.length sc) := hsa
  have HL : Hid (x.subst.length = sn ∧ x.states.length = tn) := ⟨hsnE, htnE⟩
  have hc2 : ∀ W, Below w.heap.size w W → W.cell? ⟨wb, 2, none⟩ = some (.slice (some ⟨sg, 0, none⟩) sn sc) := fun W hW => by
    rw [← HL.out.1, ← HSA.out]; exact (HW.out W hW).cell 2 _ rfl
  have HC2 : Hid (∀ W, Below w.heap.size w W → W.cell? ⟨wb, 2, none⟩ = some (.slice (some ⟨sg, 0, none⟩) sn sc)) := hc2
  have hc10 : ∀ W, Below w.heap.size w W → W.cell? ⟨wb, 10, none⟩ = some (.slice y.ta tn y.tc) := fun W hW => by
    rw [← HL.out.2]; exact (HW.out W hW).cell 10 _ rfl
  have HC10 : Hid (∀ W, Below w.heap.size w W → W.cell? ⟨wb, 10, none⟩ = some (.slice y.ta tn y.tc)) := hc10
  clear h hr hsnE htnE hsa hc2 hc10
  go_enter Try.func32, Try.ntmps32
  go_wp2_with fail
  refine wp_region_Y (fun j => [].contains j) (fun W : World => True) (by kernel_rfl) ?_
  refine wpAnyY_pure (i := 0) 8 (v := .pointer (some ⟨wb, 0, none⟩)) rfl rfl (by kernel_rfl) (by kernel_rfl) (by kernel_rfl) (fun _ _ _ h => h) (Or.inl ⟨by rfl, by (intro W _; go_simp)⟩) ?_
  simp only [Act.put, List.setIfInBounds_toArray, List.set_cons_succ, List.set_cons_zero]
  refine wpAnyY_pure (i := 1) 9 (v := .pointer (some ⟨wb, 0, none⟩)) rfl rfl (by kernel_rfl) (by kernel_rfl) (by kernel_rfl) (fun _ _ _ h => h) (Or.inl ⟨by rfl, by (intro W _; go_simp)⟩) ?_
  simp only [Act.put, List.setIfInBounds_toArray, List.set_cons_succ, List.set_cons_zero]
  refine wpAnyY_pure (i := 2) 10 (v := .pointer (some ⟨wb, 0, none⟩)) rfl rfl (by kernel_rfl) (by kernel_rfl) (by kernel_rfl) (fun _ _ _ h => h) (Or.inl ⟨by rfl, by (intro W _; go_simp)⟩) ?_
  simp only [Act.put, List.setIfInBounds_toArray, List.set_cons_succ, List.set_cons_zero]
  refine wpAnyY_pure (i := 3) 11 (v := .pointer (some ⟨wb, 5, none⟩)) rfl rfl (by kernel_rfl) (by kernel_rfl) (by kernel_rfl) (fun _ _ _ h => h) (Or.inl ⟨by rfl, by (intro W _; go_simp)⟩) ?_
  simp only [Act.put, List.setIfInBounds_toArray, List.set_cons_succ, List.set_cons_zero]
  refine wpAnyY_pure (i := 4) 12 (v := .pointer (some ⟨wb, 0, none⟩)) rfl rfl (by kernel_rfl) (by kernel_rfl) (by kernel_rfl) (fun _ _ _ h => h) (Or.inl ⟨by rfl, by (intro W _; go_simp)⟩) ?_
  simp only [Act.put, List.setIfInBounds_toArray, List.set_cons_succ, List.set_cons_zero]
  refine wpAnyY_pure (i := 5) 13 (v := .pointer (some ⟨wb, 0, none⟩)) rfl rfl (by kernel_rfl) (by kernel_rfl) (by kernel_rfl) (fun _ _ _ h => h) (Or.inl ⟨by rfl, by (intro W _; go_simp)⟩) ?_
  simp only [Act.put, List.setIfInBounds_toArray, List.set_cons_succ, List.set_cons_zero]
  refine wpAnyY_pure (i := 6) 14 (v := .pointer (some ⟨wb, 0, none⟩)) rfl rfl (by kernel_rfl) (by kernel_rfl) (by kernel_rfl) (fun _ _ _ h => h) (Or.inl ⟨by rfl, by (intro W _; go_simp)⟩) ?_
  simp only [Act.put, List.setIfInBounds_toArray, List.set_cons_succ, List.set_cons_zero]
  refine wpAnyY_pure (i := 7) 15 (v := .pointer (some ⟨wb, 6, none⟩)) rfl rfl (by kernel_rfl) (by kernel_rfl) (by kernel_rfl) (fun _ _ _ h => h) (Or.inl ⟨by rfl, by (intro W _; go_simp)⟩) ?_
  simp only [Act.put, List.setIfInBounds_toArray, List.set_cons_succ, List.set_cons_zero]
  refine wpAnyY_one (i := 8) rfl (by kernel_rfl) (fun K hK => ?_)
  go_simp
  refine hK.out _ _ (fun _ _ => trivial) ?_
  clear hK K
  refine wpAnyY_one (i := 9) rfl (by kernel_rfl) (fun K hK => ?_)
  go_simp
  refine hK.out _ _ (fun _ _ => trivial) ?_
  clear hK K
  refine wpAnyY_done (by kernel_rfl) ?_ _
  obtain ⟨w2, hw2⟩ : ∃ w2, w2 = (w.alloc (.cells #[.pointer (some ⟨wb, 5, none⟩), .pointer (some ⟨wb, 6, none⟩)] 64)).drew := ⟨_, rfl⟩
  have HP : Hid (Pl w w2 [⟨wb, 5, none⟩, ⟨wb, 6, none⟩] (.slice (some ⟨w.heap.size, 0, none⟩) 2 2)) := by
    rw [hw2]
    refine ⟨⟨rfl, .inr ⟨w.heap.size, 2, _, rfl, Nat.le_refl _, heap_alloc_new w _, by simp, by unfold maxLen; simp, by simp, rfl⟩⟩, ((Below.refl _ _).alloc (Nat.le_refl _) _).drew⟩
  rw [← hw2]
  clear hw2
  have c2 := HC2.out w2 HP.out.low
  go_wp2
  go_loopg [3, 4, 23] sn (fun q av _ iv wr => ∃ (k : Nat), k + q = sn ∧ iv = .int .i64 k ∧ Hid (Pl w wr (⟨wb, 5, none⟩ :: ⟨wb, 6, none⟩ :: suL sg k) av))
  case atStart => exact ⟨0, by omega, rfl, HP.out⟩
  case round =>
    clear HP c2
    obtain ⟨k, hkq, rfl, HP⟩ := hrel
    by_cases hlt : k < sn
    · have c2 := HC2.out wr HP.out.low
      obtain ⟨A, hA⟩ : ∃ A, A = ((⟨wb, 5, none⟩ : Addr) :: ⟨wb, 6, none⟩ :: suL sg k) := ⟨_, rfl⟩
      have HAE : Hid (A ++ [⟨sg, k, none⟩] = (⟨wb, 5, none⟩ : Addr) :: ⟨wb, 6, none⟩ :: suL sg (k + 1) ∧ A.length ≤ 500) := by
        rw [hA]; refine ⟨by simp [suL, List.range_succ], by simp [suL]; omega⟩
      rw [← hA] at HP
      clear hA
      obtain ⟨ao, cap, rfl⟩ := owned_shape HP.out.own
      obtain ⟨m, hm⟩ : ∃ m, A.length = m := ⟨_, rfl⟩
      have HP2 : Hid (Pl w (wr.alloc (.cells #[.pointer (some ⟨sg, k, none⟩)] 64)) A (.slice ao m cap)) := by rw [← hm]; exact HP.out.next ((Below.refl _ _).alloc (Nat.le_refl _) _)
      have HM : Hid (A.length = m) := hm
      have hm5 : m ≤ 500 := by rw [← hm]; exact HAE.out.2
      rw [hm]
      clear hm HP
      have hk0 : decide ((k : Int) < (sn : Int)) = true := by simp; omega
      go_wp2_with (at_builtin; refine wpList_append_opt rfl _ _ 62 rfl w.heap.size 64 i0 _ 1 8 Try.underlying62 hi hz0 hz1 hz2 rfl (by decide) (.slice ao m cap) m (ptRow A) rfl (by rw [← HM.out]; exact HM.out ▸ HP2.out.own) (some ⟨wr.heap.size, 0, none⟩) 1 1 [.pointer (some ⟨sg, k, none⟩)] rfl (pt_new _ _) (by unfold maxLen; omega) (by omega) (by simpa using HP2.out.low.size) ?_)
      intro v' w5 ho hg
      have HN : Hid (Pl w w5 (A ++ [⟨sg, k, none⟩]) v') := HP2.out.more (by rw [HM.out]; exact ho) hg
      clear ho hg HP2
      rw [HAE.out.1] at HN
      go_wp2
      go_roundg (gk - 1)
      case measure => omega
      case rel => exact ⟨k + 1, by omega, by go_num, HN.out⟩
    · obtain rfl : k = sn := by omega
      have c10 := HC10.out wr HP.out.low
      have hk0 : decide ((k : Int) < (k : Int)) = false := by simp
      go_wp2
      go_loopg [3, 6, 7, 43, 50] tn (fun q av _ _ iv _ wr => ∃ (i : Nat), i + q = tn ∧ iv = .int .i64 i ∧ Hid (Pl w wr (⟨wb, 5, none⟩ :: ⟨wb, 6, none⟩ :: (suL sg k ++ eaS (y.sl.take i) (x.states.take i))) av))
      case atStart => exact ⟨0, by omega, rfl, by show Pl _ _ _ _; simpa [eaS] using HP.out⟩
      case round =>
        clear HP c10
        obtain ⟨i, hiq, rfl, HP⟩ := hrel
        obtain ⟨wo, rfl⟩ : ∃ wo, wo = wr := ⟨_, rfl⟩
        obtain ⟨av, rfl⟩ : ∃ av, av = u3 := ⟨_, rfl⟩
        obtain ⟨gO, rfl⟩ : ∃ gO, gO = gk := ⟨_, rfl⟩
        by_cases hin : i < tn
        · have hW := HW.out wo HP.out.low
          obtain ⟨tg, tcc, hta0, _⟩ := owned_some hW.states (by rw [HL.out.2]; omega)
          have hta : y.ta = some ⟨tg, 0, none⟩ := by injection hta0
          obtain ⟨rr, hrr⟩ : ∃ rr, y.sl[i]? = some rr := ⟨y.sl[i]'(by rw [hW.rows.1, HL.out.2]; exact hin), List.getElem?_eq_getElem _⟩
          obtain ⟨ss, hss⟩ : ∃ ss, x.states[i]? = some ss := ⟨x.states[i]'(by rw [HL.out.2]; exact hin), List.getElem?_eq_getElem _⟩
          obtain ⟨kd, ea, en, ec⟩ := rr
          obtain ⟨hk1, hk2, hk3, _⟩ := hW.rows.2 i _ ss hrr hss
          simp only at hk1 hk2
          have hen : en ≤ 100 := by omega
          have HE : Hid (∀ W, Below w.heap.size w W → W.ownsRow base 42 2 (.slice ea en ec) en (pcRow ss.2)) := fun W hB => ((HW.out W hB).rows.2 i _ ss hrr hss).2.2.2
          have hst := hW.states
          rw [hta] at hst
          have t0 : wo.cell? ⟨tg, i * 2, none⟩ = some (.int .i64 kd) := (owned_cells hst (i * 2 + 0) _ (flat_get (f := srCells) (s := 2) (fun _ => rfl) y.sl i _ 0 _ hrr rfl)).1
          have t1 : wo.cell? ⟨tg, i * 2 + 1, none⟩ = some (.slice ea en ec) := (owned_cells hst (i * 2 + 1) _ (flat_get (f := srCells) (fun _ => rfl) y.sl i _ 1 _ hrr rfl)).1
          have HEX : Hid (eaS (y.sl.take (i + 1)) (x.states.take (i + 1)) = eaS (y.sl.take i) (x.states.take i) ++ eaF (blkOf ea) 0 ss.2) := by
            show _ = _
            have h1 := (List.getElem?_eq_some_iff.1 hrr)
            have h2 := (List.getElem?_eq_some_iff.1 hss)
            rw [List.take_succ_eq_append_getElem h1.1, List.take_succ_eq_append_getElem h2.1, h1.2, h2.2, eaS_snoc _ _ _ _ (by simp [hW.rows.1])]
          have HLN : Hid (ss.2.length = en) := hk2.symm
          obtain ⟨B, hB⟩ : ∃ B, B = ((⟨wb, 5, none⟩ : Addr) :: ⟨wb, 6, none⟩ :: (suL sg k ++ eaS (y.sl.take i) (x.states.take i))) := ⟨_, rfl⟩
          have HBL : Hid (B.length ≤ 2000 ∧ B ++ eaF (blkOf ea) 0 ss.2 = (⟨wb, 5, none⟩ : Addr) :: ⟨wb, 6, none⟩ :: (suL sg k ++ eaS (y.sl.take (i + 1)) (x.states.take (i + 1)))) := by
            rw [hB]
            refine ⟨?_, by rw [HEX.out]; simp [List.append_assoc]⟩
            have h1 := eaS_len (y.sl.take i) (x.states.take i) (fun s hs => right_edges HR.out s (List.mem_of_mem_take hs))
            simp [suL] at h1 ⊢
            omega
          rw [← hB] at HP
          clear hB hW hst hta0 hrr hss hk1 hk2 hk3 HEX
          have HTA : Hid (y.ta = some ⟨tg, 0, none⟩) := hta
          rw [hta]
          clear hta
          have hin0 : decide ((i : Int) < (tn : Int)) = true := by simp; omega
          have HP1 : Hid (Pl w (wo.alloc (.cells #[.int .i64 kd, .slice ea en ec] 39)) B av) := HP.out.next ((Below.refl _ _).alloc (Nat.le_refl _) _)
          go_wp2
          go_loopg [3, 7, 50] en (fun q bv _ iv wr => ∃ (j : Nat), j + q = en ∧ iv = .int .i64 j ∧ Hid (Pl w wr (B ++ eaF (blkOf ea) 0 (ss.2.take j)) bv ∧ wr.heap[wo.heap.size]? = some (.cells #[.int .i64 kd, .slice ea en ec] 39 (0, 0))))
          case atStart => exact ⟨0, by omega, rfl, by simpa [eaF] using HP1.out, heap_alloc_new wo _⟩
          case round =>
            clear HP1
            obtain ⟨j, hjq, rfl, HQ⟩ := hrel
            obtain ⟨bv, rfl⟩ : ∃ bv, bv = u3 := ⟨_, rfl⟩
            by_cases hjn : j < en
            · have hE := HE.out wr HQ.out.1.low
              obtain ⟨eg, ecc, hea0, _⟩ := owned_some hE (by omega)
              obtain ⟨rfl, rfl⟩ : ea = some ⟨eg, 0, none⟩ ∧ ecc = ec := by cases hea0; exact ⟨rfl, rfl⟩
              obtain ⟨ed, hed⟩ : ∃ ed, ss.2[j]? = some ed := ⟨ss.2[j]'(by rw [HLN.out]; exact hjn), List.getElem?_eq_getElem _⟩
              have e1 : wr.cell? ⟨eg, j * 2 + 1, none⟩ = some (.int .i64 ed.2) := (owned_cells hE (j * 2 + 1) _ (flat_get (f := pcCells) (fun _ => rfl) ss.2 j _ 1 _ hed rfl)).1
              have b1 : wr.cell? ⟨wo.heap.size, 1, none⟩ = some (.slice (some ⟨eg, 0, none⟩) en ecc) := blk HQ.out.2 rfl
              have HSN : Hid (eaF eg 0 (ss.2.take (j + 1)) = eaF eg 0 (ss.2.take j) ++ (if ed.2 = -1 then [] else [⟨eg, j * 2 + 1, none⟩])) := by
                show _ = _
                obtain ⟨h1, h2⟩ := List.getElem?_eq_some_iff.1 hed
                rw [List.take_succ_eq_append_getElem h1, h2, eaF_snoc]
                simp [Nat.min_eq_left (Nat.le_of_lt h1)]
              have HJL : Hid ((B ++ eaF eg 0 (ss.2.take j)).length ≤ 2200) := by
                show _ ≤ _
                have h1 := eaF_len eg (ss.2.take j) 0
                have h2 := HBL.out.1
                rw [List.length_append]
                simp at h1
                omega
              have hj0 : decide ((j : Int) < (en : Int)) = true := by simp; omega
              clear hE hea0 hed
              by_cases hc : ed.2 = -1
              · rw [hc] at e1
                rw [if_pos hc, List.append_nil] at HSN
                clear hc
                go_wp2
                go_roundg (gk - 1)
                case measure => omega
                case rel => exact ⟨j + 1, by omega, by go_num, by show Pl _ _ (B ++ eaF eg 0 _) _; rw [HSN.out]; exact HQ.out.1, HQ.out.2⟩
              · rw [if_neg hc] at HSN
                obtain ⟨C, hC⟩ : ∃ C, C = B ++ eaF eg 0 (ss.2.take j) := ⟨_, rfl⟩
                have HQ1 : Hid (Pl w wr C bv ∧ wr.heap[wo.heap.size]? = some (.cells #[.int .i64 kd, .slice (some ⟨eg, 0, none⟩) en ecc] 39 (0, 0))) := by rw [hC]; exact HQ.out
                have HSC : Hid (B ++ eaF eg 0 (ss.2.take (j + 1)) = C ++ [⟨eg, j * 2 + 1, none⟩]) := by rw [hC, HSN.out]; simp [List.append_assoc, Hid]
                rw [← hC] at HJL
                clear hC HQ HSN
                obtain ⟨ao, cap, rfl⟩ := owned_shape HQ1.out.1.own
                obtain ⟨m, hm⟩ : ∃ m, C.length = m := ⟨_, rfl⟩
                have HP2 : Hid (Pl w (wr.alloc (.cells #[.pointer (some ⟨eg, j * 2 + 1, none⟩)] 64)) C (.slice ao m cap)) := by rw [← hm]; exact HQ1.out.1.next ((Below.refl _ _).alloc (Nat.le_refl _) _)
                have HHB : Hid (∀ o, (wr.alloc o).heap[wo.heap.size]? = some (.cells #[.int .i64 kd, .slice (some ⟨eg, 0, none⟩) en ecc] 39 (0, 0))) := fun o => by
                  rw [((Below.refl wr.heap.size wr).alloc (Nat.le_refl _) o).block _ (lt_block HQ1.out.2)]; exact HQ1.out.2
                have HM : Hid (C.length = m) := hm
                have hm5 : m ≤ 2200 := by rw [← hm]; exact HJL.out
                rw [hm]
                clear hm HQ1
                go_wp2_with (at_builtin; refine wpList_append_opt rfl _ _ 62 rfl w.heap.size 64 i0 _ 1 8 Try.underlying62 hi hz0 hz1 hz2 rfl (by decide) (.slice ao m cap) m (ptRow C) rfl (HM.out ▸ HP2.out.own) (some ⟨wr.heap.size, 0, none⟩) 1 1 [.pointer (some ⟨eg, j * 2 + 1, none⟩)] rfl (pt_new _ _) (by unfold maxLen; omega) (by omega) (by simpa using HP2.out.low.size) ?_)
                intro v' w5 ho hg
                have HN : Hid (Pl w w5 (C ++ [⟨eg, j * 2 + 1, none⟩]) v' ∧ w5.heap[wo.heap.size]? = some (.cells #[.int .i64 kd, .slice (some ⟨eg, 0, none⟩) en ecc] 39 (0, 0))) := by
                  refine ⟨HP2.out.more (by rw [HM.out]; exact ho) hg, ?_⟩
                  have hb0 := HHB.out (.cells #[.pointer (some ⟨eg, j * 2 + 1, none⟩)] 64)
                  rw [hg.block _ (lt_block hb0) (fun e => by
                    rcases HP2.out.own.2 with ⟨hv, _⟩ | ⟨g', cap', cur, hv, _, hg', _⟩
                    · cases hv; cases e
                    · cases hv; simp [Value.ownBlock] at e; rw [e, hg'] at hb0; cases hb0)]
                  exact hb0
                clear ho hg HP2 HHB
                go_wp2
                go_roundg (gk - 1)
                case measure => omega
                case rel => exact ⟨j + 1, by omega, by go_num, by show Pl _ _ (B ++ eaF eg 0 _) _; rw [HSC.out]; exact HN.out.1, HN.out.2⟩
            · have hje : j = en := by omega
              have hj0 : decide ((j : Int) < (en : Int)) = false := by simp; omega
              have HZ : Hid (Pl w wr ((⟨wb, 5, none⟩ : Addr) :: ⟨wb, 6, none⟩ :: (suL sg k ++ eaS (y.sl.take (i + 1)) (x.states.take (i + 1)))) bv) := by
                have := HQ.out.1
                rw [List.take_of_length_le (by rw [HLN.out]; omega), HBL.out.2] at this
                exact this
              clear HQ hje
              go_wp2
              rw [← HTA.out]
              go_roundg (gO - 1)
              case measure => omega
              case rel => exact ⟨i + 1, by omega, by go_num, HZ.out⟩
        · obtain rfl : i = tn := by omega
          have hk0 : decide ((i : Int) < (i : Int)) = false := by simp
          go_wp2
          go_ret
          refine ⟨_, rfl, ?_⟩
          have hp := HP.out
          rw [List.take_of_length_le (by rw [(HW.out wo hp.low).rows.1, HL.out.2]; exact Nat.le_refl _), List.take_of_length_le (by rw [HL.out.2]; exact Nat.le_refl _)] at hp
          unfold adL
          have hsa : blkOf y.sa = sg := by
            have := HSA.out
            injection this with h1
            rw [h1]; rfl
          rw [hsa, HL.out.1]
          exact hp
end Go.Proofs.Ytolehoibpnenlab
namespace Go.Proofs.Ytolehoibpnenlab
open Go.RowKit Go.Deep Go.Maps

/-- Addresses and what stands there. -/
def epF (g : Nat) : Nat → List (Int × Int) → List (Addr × Int)
  | _, [] => []
  | i, e :: r => (if e.2 = -1 then [] else [(⟨g, i * 2 + 1, none⟩, e.2)]) ++ epF g (i + 1) r
def epS : List Sr → List St → List (Addr × Int)
  | r :: sl, s :: l => epF (blkOf r.2.1) 0 s.2 ++ epS sl l
  | _, _ => []
def spF (g : Nat) : Nat → List Int → List (Addr × Int)
  | _, [] => []
  | i, p :: r => (⟨g, i, none⟩, p) :: spF g (i + 1) r
def adP (wb : Nat) (x : Rc) (y : Ly) : List (Addr × Int) := (⟨wb, 5, none⟩, x.front) :: (⟨wb, 6, none⟩, x.back) :: (spF (blkOf y.sa) 0 x.subst ++ epS y.sl x.states)
theorem epF_fst (g : Nat) : ∀ (l : List (Int × Int)) (i : Nat), (epF g i l).map (·.1) = eaF g i l
  | [], _ => rfl
  | e :: r, i => by
    rw [epF, eaF, List.map_append, epF_fst g r]
    by_cases h : e.2 = -1 <;> simp [h]
theorem epS_fst : ∀ (sl : List Sr) (l : List St), (epS sl l).map (·.1) = eaS sl l
  | [], _ => by simp [epS, eaS]
  | _ :: _, [] => by simp [epS, eaS]
  | r :: sl, s :: l => by rw [epS, eaS, List.map_append, epF_fst, epS_fst sl l]
theorem spF_fst (g : Nat) : ∀ (l : List Int) (i : Nat), (spF g i l).map (·.1) = (List.range' i l.length).map fun k => ⟨g, k, none⟩
  | [], _ => rfl
  | p :: r, i => by rw [spF, List.map_cons, spF_fst g r, List.length_cons, List.range'_succ, List.map_cons]
theorem adP_fst (wb : Nat) (x : Rc) (y : Ly) : (adP wb x y).map (·.1) = adL wb x y := by
  rw [adP, adL, List.map_cons, List.map_cons, List.map_append, spF_fst, epS_fst, suL, List.range_eq_range']
theorem epF_snd (g : Nat) : ∀ (l : List (Int × Int)) (i : Nat), (epF g i l).map (·.2) = costsL l
  | [], _ => rfl
  | e :: r, i => by
    rw [epF, List.map_append, epF_snd g r]
    by_cases h : e.2 = -1 <;> simp [h, costsL]
theorem epS_snd : ∀ (sl : List Sr) (l : List St), sl.length = l.length → (epS sl l).map (·.2) = costsS l
  | [], [], _ => by simp [epS, costsS]
  | [], _ :: _, h => by simp at h
  | _ :: _, [], h => by simp at h
  | r :: sl, s :: l, h => by rw [epS, List.map_append, epF_snd, epS_snd sl l (by simpa using h), costsS, costsS, List.flatMap_cons]
theorem spF_snd (g : Nat) : ∀ (l : List Int) (i : Nat), (spF g i l).map (·.2) = l
  | [], _ => rfl
  | p :: r, i => by rw [spF, List.map_cons, spF_snd g r]
theorem adP_snd (wb : Nat) (x : Rc) (y : Ly) (h : y.sl.length = x.states.length) : (adP wb x y).map (·.2) = placesL x := by
  rw [adP, placesL, List.map_cons, List.map_cons, List.map_append, spF_snd, epS_snd _ _ h]
/-- Cells written one behind the other. -/
def setAll (F : Int → Int) (w : World) : List (Addr × Int) → World
  | [] => w
  | a :: r => setAll F (w.setCell a.1 (.int .i64 (F a.2))) r
theorem setAll_append (F : Int → Int) : ∀ (l m : List (Addr × Int)) (w : World), setAll F w (l ++ m) = setAll F (setAll F w l) m
  | [], _, _ => rfl
  | a :: r, m, w => by rw [List.cons_append, setAll, setAll, setAll_append F r m]
theorem setAll_other (F : Int → Int) : ∀ (l : List (Addr × Int)) (w : World) (g : Nat), (∀ a ∈ l, a.1.block ≠ g) → (setAll F w l).heap[g]? = w.heap[g]?
  | [], _, _, _ => rfl
  | a :: r, w, g, h => by
    rw [setAll, setAll_other F r _ g (fun b hb => h b (List.mem_cons_of_mem _ hb))]
    exact Below.heap_setCell _ _ _ _ (fun e => h a (by simp) e.symm)
theorem setAll_size (F : Int → Int) : ∀ (l : List (Addr × Int)) (w : World), (setAll F w l).heap.size = w.heap.size
  | [], _ => rfl
  | a :: r, w => by rw [setAll, setAll_size F r]; simp [World.setCell]
theorem cell_set_ne (w : World) (a b : Addr) (v : Value) (hs : a.spot = none) (hb : b.spot = none) (h : a ≠ b) : (w.setCell b v).cell? a = w.cell? a := by
  obtain ⟨ag, ao, asp⟩ := a
  obtain ⟨bg, bo, bsp⟩ := b
  simp only at hs hb
  subst hs; subst hb
  exact World.cell?_setCells_out bg [v] bo w ⟨ag, ao, none⟩ (fun e _ => by
    simp only at e
    subst e
    have : ao ≠ bo := fun e => h (by rw [e])
    simp; omega)
theorem setAll_cell (F : Int → Int) : ∀ (l : List (Addr × Int)) (w : World) (a : Addr), a.spot = none → (∀ b ∈ l, b.1 ≠ a ∧ b.1.spot = none) → (setAll F w l).cell? a = w.cell? a
  | [], _, _, _, _ => rfl
  | b :: r, w, a, hs, h => by
    rw [setAll, setAll_cell F r _ a hs (fun c hc => h c (List.mem_cons_of_mem _ hc))]
    exact cell_set_ne w a b.1 _ hs (h b (by simp)).2 (fun e => (h b (by simp)).1 e.symm)
theorem owned_heap {w w' : World} {base : Nat} {e : TypeId} {size : Nat} {v : Value} {n : Nat} {xs : List Value} (h : w.ownsRow base e size v n xs) (he : w'.heap = w.heap) : w'.ownsRow base e size v n xs :=
  owned_of_block h fun g _ _ _ => by rw [he]
theorem itRow_set (pre : List Int) (p q : Int) (r : List Int) : (itRow (pre ++ p :: r)).set pre.length (.int .i64 q) = itRow (pre ++ q :: r) := by
  simp [itRow]
theorem own_sp (F : Int → Int) {base g n c : Nat} : ∀ (l pre : List Int) (w : World), w.ownsRow base 3 1 (.slice (some ⟨g, 0, none⟩) n c) n (itRow (pre ++ l)) →
    (setAll F w (spF g pre.length l)).ownsRow base 3 1 (.slice (some ⟨g, 0, none⟩) n c) n (itRow (pre ++ l.map F))
  | [], pre, w, h => by simpa [spF, setAll] using h
  | p :: r, pre, w, h => by
    have h1 := own_set h pre.length (.int .i64 (F p))
    rw [itRow_set] at h1
    have h2 := own_sp F r (pre ++ [F p]) (w.setCell ⟨g, pre.length, none⟩ (.int .i64 (F p))) (by rw [List.append_assoc]; exact h1)
    rw [spF, setAll]
    rw [List.append_assoc, List.length_append] at h2
    exact h2
theorem pcRow_set (pre : List (Int × Int)) (e : Int × Int) (q : Int) (r : List (Int × Int)) : (pcRow (pre ++ e :: r)).set (pre.length * 2 + 1) (.int .i64 q) = pcRow (pre ++ (e.1, q) :: r) := by
  unfold pcRow
  rw [List.flatMap_append, List.flatMap_append, List.flatMap_cons, List.flatMap_cons, List.set_append, if_neg (by have := pcRow_len pre; unfold pcRow at this; rw [this]; omega)]
  have := pcRow_len pre
  unfold pcRow at this
  rw [this, show pre.length * 2 + 1 - pre.length * 2 = 1 by omega]
  simp [pcCells]
def rnE (F : Int → Int) (e : Int × Int) : Int × Int := (e.1, if e.2 = -1 then -1 else F e.2)
theorem own_ep (F : Int → Int) {base g n c : Nat} : ∀ (l pre : List (Int × Int)) (w : World), w.ownsRow base 42 2 (.slice (some ⟨g, 0, none⟩) n c) n (pcRow (pre ++ l)) →
    (setAll F w (epF g pre.length l)).ownsRow base 42 2 (.slice (some ⟨g, 0, none⟩) n c) n (pcRow (pre ++ l.map (rnE F)))
  | [], pre, w, h => by simpa [epF, setAll] using h
  | e :: r, pre, w, h => by
    rw [epF]
    by_cases hc : e.2 = -1
    · rw [if_pos hc, List.nil_append]
      have h2 := own_ep F r (pre ++ [e]) w (by rw [List.append_assoc]; exact h)
      rw [List.append_assoc, List.length_append] at h2
      rw [List.map_cons, show rnE F e = e by rw [rnE, if_pos hc, ← hc]]
      exact h2
    · rw [if_neg hc, List.singleton_append, setAll]
      have h1 := own_set h (pre.length * 2 + 1) (.int .i64 (F e.2))
      rw [pcRow_set] at h1
      have h2 := own_ep F r (pre ++ [rnE F e]) (w.setCell ⟨g, pre.length * 2 + 1, none⟩ (.int .i64 (F e.2))) (by rw [List.append_assoc, rnE, if_neg hc]; exact h1)
      rw [List.append_assoc, List.length_append] at h2
      rw [List.map_cons]
      exact h2
theorem epF_block (g : Nat) : ∀ (l : List (Int × Int)) (i : Nat), ∀ a ∈ epF g i l, a.1.block = g ∧ a.1.spot = none ∧ i * 2 < a.1.off
  | [], _, a, ha => by simp [epF] at ha
  | e :: r, i, a, ha => by
    rw [epF, List.mem_append] at ha
    rcases ha with ha | ha
    · by_cases h : e.2 = -1
      · simp [h] at ha
      · simp [h] at ha; subst ha; exact ⟨rfl, rfl, by simp⟩
    · obtain ⟨h1, h2, h3⟩ := epF_block g r (i + 1) a ha
      exact ⟨h1, h2, by omega⟩
theorem spF_block (g : Nat) : ∀ (l : List Int) (i : Nat), ∀ a ∈ spF g i l, a.1.block = g ∧ a.1.spot = none ∧ i ≤ a.1.off
  | [], _, a, ha => by simp [spF] at ha
  | p :: r, i, a, ha => by
    rw [spF, List.mem_cons] at ha
    rcases ha with rfl | ha
    · exact ⟨rfl, rfl, Nat.le_refl _⟩
    · obtain ⟨h1, h2, h3⟩ := spF_block g r (i + 1) a ha
      exact ⟨h1, h2, by omega⟩
/-- Which blocks the states' places lie in. -/
theorem epS_block : ∀ (sl : List Sr) (l : List St), ∀ a ∈ epS sl l, ∃ (i : Nat) (r : Sr) (s : St), sl[i]? = some r ∧ l[i]? = some s ∧ s.2 ≠ [] ∧ a.1.block = blkOf r.2.1 ∧ a.1.spot = none
  | [], _, a, ha => by simp [epS] at ha
  | _ :: _, [], a, ha => by simp [epS] at ha
  | r :: sl, s :: l, a, ha => by
    rw [epS, List.mem_append] at ha
    rcases ha with ha | ha
    · obtain ⟨h1, h2, _⟩ := epF_block _ _ _ a ha
      refine ⟨0, r, s, rfl, rfl, fun e => ?_, h1, h2⟩
      rw [e] at ha; simp [epF] at ha
    · obtain ⟨i, r', s', h1, h2, h3⟩ := epS_block sl l a ha
      exact ⟨i + 1, r', s', h1, h2, h3⟩
theorem own_block {w : World} {base : Nat} {e : TypeId} {size : Nat} {ao : Option Addr} {n c : Nat} {xs : List Value} (h : w.ownsRow base e size (.slice ao n c) n xs) (hn : 0 < n) : ∃ cs, ao = some ⟨blkOf ao, 0, none⟩ ∧ base ≤ blkOf ao ∧ w.heap[blkOf ao]? = some (.cells cs e (0, 0)) := by
  rcases h.2 with ⟨hv, h0⟩ | ⟨g', cap', cur, hv, hb', hg', _⟩
  · omega
  · cases hv; exact ⟨_, rfl, hb', hg'⟩
/-- Whatever stands apart of a work's places. -/
theorem WkAt.places {w : World} {base wb : Nat} {x : Rc} {vs : List Int} {y : Ly} (h : WkAt w base wb x vs y) (hs : 0 < x.subst.length) : ∀ a ∈ adP wb x y, a.1.spot = none ∧ base ≤ a.1.block ∧ (a.1.block = wb ∨ a.1.block = blkOf y.sa ∨ ∃ cs, w.heap[a.1.block]? = some (.cells cs 42 (0, 0))) := by
  intro a ha
  rw [adP] at ha
  rcases List.mem_cons.1 ha with rfl | ha
  · exact ⟨rfl, h.fro, .inl rfl⟩
  rcases List.mem_cons.1 ha with rfl | ha
  · exact ⟨rfl, h.fro, .inl rfl⟩
  rcases List.mem_append.1 ha with ha | ha
  · obtain ⟨h1, h2, _⟩ := spF_block _ _ _ a ha
    obtain ⟨cs, _, q2, _⟩ := own_block h.subst hs
    exact ⟨h2, by rw [h1]; exact q2, .inr (.inl h1)⟩
  · obtain ⟨i, r, s, h1, h2, h3, h4, h5⟩ := epS_block _ _ a ha
    obtain ⟨k1, k2, k3, k4⟩ := h.rows.2 i r s h1 h2
    obtain ⟨cs, q1, q2, q3⟩ := own_block k4 (by rw [k2]; exact List.length_pos_iff.2 h3)
    exact ⟨h5, by rw [h4]; exact q2, .inr (.inr ⟨cs, by rw [h4]; exact q3⟩)⟩
theorem WkAt.subBlk {w : World} {base wb : Nat} {x : Rc} {vs : List Int} {y : Ly} (h : WkAt w base wb x vs y) (hs : 0 < x.subst.length) : ∃ cs, y.sa = some ⟨blkOf y.sa, 0, none⟩ ∧ w.heap[blkOf y.sa]? = some (.cells cs 3 (0, 0)) := by
  obtain ⟨cs, q1, _, q3⟩ := own_block h.subst hs
  exact ⟨cs, q1, q3⟩
/-- The states' part. -/
theorem own_eps (F : Int → Int) {base : Nat} : ∀ (sl : List Sr) (l : List St) (w : World), Own2 w base sl l → Dj sl → Own2 (setAll F w (epS sl l)) base sl (l.map fun s => (s.1, s.2.map (rnE F)))
  | [], l, w, h, _ => by
    have : l = [] := List.length_eq_zero_iff.1 h.1.symm
    subst this
    simpa [epS, setAll] using h
  | r :: sl, [], w, h, _ => by have := h.1; simp at this
  | r :: sl, s :: l, w, h, hd => by
    rw [epS, setAll_append]
    obtain ⟨k1, k2, k3, k4⟩ := h.2 0 r s rfl rfl
    have htl : Own2 w base sl l := ⟨by have := h.1; simpa using this, fun i r' s' hi hs => h.2 (i + 1) r' s' hi hs⟩
    have hdt : Dj sl := fun i j r1 r2 a hij h1 h2 h3 => hd (i + 1) (j + 1) r1 r2 a (by omega) h1 h2 h3
    -- the first row
    have hfirst : (setAll F w (epF (blkOf r.2.1) 0 s.2)).ownsRow base 42 2 (.slice r.2.1 r.2.2.1 r.2.2.2) r.2.2.1 (pcRow (s.2.map (rnE F))) := by
      by_cases h0 : s.2 = []
      · rw [h0] at k4 ⊢; simpa [epF, setAll] using k4
      · obtain ⟨cs, q1, _, _⟩ := own_block k4 (by rw [k2]; exact List.length_pos_iff.2 h0)
        obtain ⟨g, hg⟩ : ∃ g, blkOf r.2.1 = g := ⟨_, rfl⟩
        rw [hg] at q1 ⊢
        rw [q1] at k4 ⊢
        exact own_ep F s.2 [] w (by simpa using k4)
    -- the others stay
    have hrest : Own2 (setAll F w (epF (blkOf r.2.1) 0 s.2)) base sl l := by
      refine ⟨htl.1, fun i r' s' hi hs => ?_⟩
      obtain ⟨p1, p2, p3, p4⟩ := htl.2 i r' s' hi hs
      refine ⟨p1, p2, p3, owned_of_block p4 fun g cur hg hc => setAll_other F _ _ _ fun a ha => ?_⟩
      obtain ⟨b1, _, _⟩ := epF_block _ _ _ a ha
      rw [b1]
      intro hgb
      have h0 : s.2 ≠ [] := fun e => by rw [e] at ha; simp [epF] at ha
      obtain ⟨cs, q1, _, _⟩ := own_block k4 (by rw [k2]; exact List.length_pos_iff.2 h0)
      rcases p4.2 with ⟨hv, _⟩ | ⟨g', cap', cur', hv, _, hg', _⟩
      · rw [hv] at hg; cases hg
      · rw [hv] at hg; simp [Value.ownBlock] at hg; subst hg
        injection hv with e1
        exact hd 0 (i + 1) r r' ⟨blkOf r.2.1, 0, none⟩ (by omega) rfl hi q1 (by rw [e1, hgb])
    have ih := own_eps F sl l _ hrest hdt
    refine ⟨by have := h.1; simpa using this, fun i r' s' hi hs => ?_⟩
    cases i with
    | zero =>
      simp at hi hs
      subst hi; subst hs
      refine ⟨k1, by simp [k2], by simpa using k3, owned_of_block hfirst fun g cur hg hc => setAll_other F _ _ _ fun a ha => ?_⟩
      obtain ⟨j, r2, s2, e1, e2, e3, e4, _⟩ := epS_block _ _ a ha
      rw [e4]
      intro hgb
      obtain ⟨p1, p2, p3, p4⟩ := htl.2 j r2 s2 e1 e2
      obtain ⟨cs2, q1, _, _⟩ := own_block p4 (by rw [p2]; exact List.length_pos_iff.2 e3)
      rcases hfirst.2 with ⟨hv, _⟩ | ⟨g', cap', cur', hv, _, hg', _⟩
      · rw [hv] at hg; cases hg
      · rw [hv] at hg; simp [Value.ownBlock] at hg; subst hg
        injection hv with e5
        exact hd 0 (j + 1) r r2 ⟨g', 0, none⟩ (by omega) rfl e1 e5 (by rw [q1, hgb])
    | succ i =>
      simp at hi hs
      obtain ⟨s0, s1, hs0, rfl⟩ := hs
      exact ih.2 i r' _ hi (by simp [hs0])
end Go.Proofs.Ytolehoibpnenlab
namespace Go.Proofs.Ytolehoibpnenlab
open Go.RowKit Go.Deep Go.Maps

def rnR (F : Int → Int) (x : Rc) : Rc := { x with front := F x.front, back := F x.back, subst := x.subst.map F, states := x.states.map fun s => (s.1, s.2.map (rnE F)) }
theorem epF_apart (g : Nat) : ∀ (l : List (Int × Int)) (i : Nat), (epF g i l).Pairwise fun a b => a.1 ≠ b.1
  | [], _ => List.Pairwise.nil
  | e :: r, i => by
    rw [epF]
    have ih := epF_apart g r (i + 1)
    by_cases h : e.2 = -1
    · rw [if_pos h, List.nil_append]; exact ih
    · rw [if_neg h, List.singleton_append]
      refine List.pairwise_cons.2 ⟨fun b hb e' => ?_, ih⟩
      obtain ⟨_, _, h3⟩ := epF_block _ _ _ b hb
      rw [← e'] at h3
      simp at h3
      omega
theorem spF_apart (g : Nat) : ∀ (l : List Int) (i : Nat), (spF g i l).Pairwise fun a b => a.1 ≠ b.1
  | [], _ => List.Pairwise.nil
  | p :: r, i => by
    rw [spF]
    refine List.pairwise_cons.2 ⟨fun b hb e' => ?_, spF_apart g r (i + 1)⟩
    obtain ⟨_, _, h3⟩ := spF_block _ _ _ b hb
    rw [← e'] at h3
    simp only at h3
    omega
theorem epS_apart {w : World} {base : Nat} : ∀ (sl : List Sr) (l : List St), Own2 w base sl l → Dj sl → (epS sl l).Pairwise fun a b => a.1 ≠ b.1
  | [], _, _, _ => by simp [epS]
  | _ :: _, [], _, _ => by simp [epS]
  | r :: sl, s :: l, h, hd => by
    rw [epS]
    have htl : Own2 w base sl l := ⟨by have := h.1; simpa using this, fun i r' s' hi hs => h.2 (i + 1) r' s' hi hs⟩
    have hdt : Dj sl := fun i j r1 r2 a hij h1 h2 h3 => hd (i + 1) (j + 1) r1 r2 a (by omega) h1 h2 h3
    refine List.pairwise_append.2 ⟨epF_apart _ _ _, epS_apart sl l htl hdt, fun a ha b hb e => ?_⟩
    obtain ⟨a1, _, _⟩ := epF_block _ _ _ a ha
    obtain ⟨j, r2, s2, e1, e2, e3, e4, _⟩ := epS_block _ _ b hb
    obtain ⟨k1, k2, k3, k4⟩ := h.2 0 r s rfl rfl
    have h0 : s.2 ≠ [] := fun e => by rw [e] at ha; simp [epF] at ha
    obtain ⟨_, q1, _, _⟩ := own_block k4 (by rw [k2]; exact List.length_pos_iff.2 h0)
    obtain ⟨p1, p2, p3, p4⟩ := htl.2 j r2 s2 e1 e2
    obtain ⟨_, q2, _, _⟩ := own_block p4 (by rw [p2]; exact List.length_pos_iff.2 e3)
    refine hd 0 (j + 1) r r2 ⟨blkOf r.2.1, 0, none⟩ (by omega) rfl e1 q1 ?_
    rw [q2, ← e4, ← e, a1]
section
variable {w : World} {base wb : Nat} {x : Rc} {vs : List Int} {y : Ly}
theorem WkAt.epBlk (h : WkAt w base wb x vs y) : ∀ a ∈ epS y.sl x.states, ∃ cs, w.heap[a.1.block]? = some (.cells cs 42 (0, 0)) := fun a ha => by
  obtain ⟨i, r, s, h1, h2, h3, h4, h5⟩ := epS_block _ _ a ha
  obtain ⟨k1, k2, k3, k4⟩ := h.rows.2 i r s h1 h2
  obtain ⟨cs, q1, q2, q3⟩ := own_block k4 (by rw [k2]; exact List.length_pos_iff.2 h3)
  exact ⟨cs, by rw [h4]; exact q3⟩
theorem WkAt.nodup (h : WkAt w base wb x vs y) (hs : 0 < x.subst.length) : (adP wb x y).Pairwise fun a b => a.1 ≠ b.1 := by
  obtain ⟨cs, q1, q3⟩ := h.subBlk hs
  have hsb : blkOf y.sa ≠ wb := fun e => by rw [e, h.box] at q3; cases q3
  have hx : ∀ (b : Addr × Int), b ∈ spF (blkOf y.sa) 0 x.subst ++ epS y.sl x.states → b.1.block ≠ wb := fun b hb => by
    rcases List.mem_append.1 hb with hb | hb
    · rw [(spF_block _ _ _ b hb).1]; exact hsb
    · obtain ⟨cs2, hc⟩ := h.epBlk b hb
      intro e; rw [e, h.box] at hc; cases hc
  rw [adP]
  refine List.pairwise_cons.2 ⟨fun b hb e => ?_, List.pairwise_cons.2 ⟨fun b hb e => ?_, List.pairwise_append.2 ⟨spF_apart _ _ _, epS_apart _ _ h.rows h.apart, fun a ha b hb e => ?_⟩⟩⟩
  · rcases List.mem_cons.1 hb with rfl | hb
    · simp at e
    · exact hx b hb (by rw [← e])
  · exact hx b hb (by rw [← e])
  · obtain ⟨cs2, hc⟩ := h.epBlk b hb
    rw [← e, (spF_block _ _ _ a ha).1, q3] at hc
    cases hc
/-- What stands at a place. -/
theorem spF_cell {g n c : Nat} : ∀ (l pre : List Int), w.ownsRow base 3 1 (.slice (some ⟨g, 0, none⟩) n c) n (itRow (pre ++ l)) → ∀ a ∈ spF g pre.length l, w.cell? a.1 = some (.int .i64 a.2) ∧ w.frozen? a.1 = false
  | [], _, _, a, ha => by simp [spF] at ha
  | p :: r, pre, h, a, ha => by
    rw [spF] at ha
    rcases List.mem_cons.1 ha with rfl | ha
    · exact owned_cells h pre.length _ (by simp [itRow])
    · exact spF_cell r (pre ++ [p]) (by rw [List.append_assoc]; exact h) a (by rw [List.length_append]; exact ha)
theorem epF_cell {g n c : Nat} : ∀ (l pre : List (Int × Int)), w.ownsRow base 42 2 (.slice (some ⟨g, 0, none⟩) n c) n (pcRow (pre ++ l)) → ∀ a ∈ epF g pre.length l, w.cell? a.1 = some (.int .i64 a.2) ∧ w.frozen? a.1 = false
  | [], _, _, a, ha => by simp [epF] at ha
  | e :: r, pre, h, a, ha => by
    rw [epF] at ha
    rcases List.mem_append.1 ha with ha | ha
    · by_cases hc : e.2 = -1
      · simp [hc] at ha
      · simp [hc] at ha
        subst ha
        exact owned_cells h (pre.length * 2 + 1) _ (flat_get (f := pcCells) (s := 2) (fun _ => rfl) _ pre.length e 1 _ (by simp) rfl)
    · exact epF_cell r (pre ++ [e]) (by rw [List.append_assoc]; exact h) a (by rw [List.length_append]; exact ha)
theorem epS_cell : ∀ (sl : List Sr) (l : List St), Own2 w base sl l → ∀ a ∈ epS sl l, w.cell? a.1 = some (.int .i64 a.2) ∧ w.frozen? a.1 = false
  | [], _, _, a, ha => by simp [epS] at ha
  | _ :: _, [], _, a, ha => by simp [epS] at ha
  | r :: sl, s :: l, h, a, ha => by
    rw [epS] at ha
    rcases List.mem_append.1 ha with ha | ha
    · obtain ⟨k1, k2, k3, k4⟩ := h.2 0 r s rfl rfl
      have h0 : s.2 ≠ [] := fun e => by rw [e] at ha; simp [epF] at ha
      obtain ⟨_, q1, _, _⟩ := own_block k4 (by rw [k2]; exact List.length_pos_iff.2 h0)
      obtain ⟨g, hg⟩ : ∃ g, blkOf r.2.1 = g := ⟨_, rfl⟩
      rw [hg] at q1 ha
      rw [q1] at k4
      exact epF_cell s.2 [] (by simpa using k4) a ha
    · exact epS_cell sl l ⟨by have := h.1; simpa using this, fun i r' s' hi hs => h.2 (i + 1) r' s' hi hs⟩ a ha
theorem WkAt.placeCell (h : WkAt w base wb x vs y) (hs : 0 < x.subst.length) : ∀ a ∈ adP wb x y, w.cell? a.1 = some (.int .i64 a.2) ∧ w.frozen? a.1 = false := by
  intro a ha
  rw [adP] at ha
  rcases List.mem_cons.1 ha with rfl | ha
  · exact ⟨h.cell 5 _ rfl, h.froz 5⟩
  rcases List.mem_cons.1 ha with rfl | ha
  · exact ⟨h.cell 6 _ rfl, h.froz 6⟩
  rcases List.mem_append.1 ha with ha | ha
  · obtain ⟨cs, q1, q3⟩ := h.subBlk hs
    have hsub := h.subst
    obtain ⟨g, hg⟩ : ∃ g, blkOf y.sa = g := ⟨_, rfl⟩
    rw [hg] at q1 ha
    rw [q1] at hsub
    exact spF_cell x.subst [] (by simpa using hsub) a ha
  · exact epS_cell _ _ h.rows a ha
/-- All places renewed. -/
theorem WkAt.renewed (F : Int → Int) (h : WkAt w base wb x vs y) (hs : 0 < x.subst.length) : WkAt (setAll F w (adP wb x y)) base wb (rnR F x) vs y := by
  obtain ⟨cs, q1, q3⟩ := h.subBlk hs
  have hsb : blkOf y.sa ≠ wb := fun e => by rw [e, h.box] at q3; cases q3
  rw [adP, setAll, setAll, setAll_append]
  simp only
  -- the box
  have h1 : WkAt ((w.setCell ⟨wb, 5, none⟩ (.int .i64 (F x.front))).setCell ⟨wb, 6, none⟩ (.int .i64 (F x.back))) base wb { x with front := F x.front, back := F x.back } vs y :=
    h.store (grown_trans (grown_set _ _ _ _) (grown_set _ _ _ _)) (by rw [heap_set _ (heap_set _ h.box)]; rfl) rfl rfl rfl
  generalize (w.setCell ⟨wb, 5, none⟩ (.int .i64 (F x.front))).setCell ⟨wb, 6, none⟩ (.int .i64 (F x.back)) = w1 at h1 ⊢
  -- the substitutions
  have hne : ∀ g, g ≠ blkOf y.sa → (setAll F w1 (spF (blkOf y.sa) 0 x.subst)).heap[g]? = w1.heap[g]? := fun g hg => setAll_other F _ _ _ fun a ha e => hg (by rw [← e, (spF_block _ _ _ a ha).1])
  obtain ⟨cs1, _, p3⟩ := h1.subBlk hs
  have hk : ∀ {e : TypeId} {size : Nat} {v : Value} {n : Nat} {xs : List Value}, e ≠ 3 → w1.ownsRow base e size v n xs → (setAll F w1 (spF (blkOf y.sa) 0 x.subst)).ownsRow base e size v n xs := fun he ho =>
    owned_of_block ho fun g cur _ hc => hne g fun e' => by rw [e', p3] at hc; cases hc; exact he rfl
  have h2 : WkAt (setAll F w1 (spF (blkOf y.sa) 0 x.subst)) base wb { x with front := F x.front, back := F x.back, subst := x.subst.map F } vs y := by
    refine ⟨h1.fro, ?_, hk (by decide) h1.defs, ?_, ?_, hk (by decide) h1.states, ⟨h1.rows.1, fun i r s hi hs => ⟨(h1.rows.2 i r s hi hs).1, (h1.rows.2 i r s hi hs).2.1, (h1.rows.2 i r s hi hs).2.2.1, hk (by decide) (h1.rows.2 i r s hi hs).2.2.2⟩⟩, h1.apart, h1.two⟩
    · rw [hne wb (Ne.symm hsb), h1.box]
      simp [wkCells]
    · have hsub := h1.subst
      obtain ⟨g, hg⟩ : ∃ g, blkOf y.sa = g := ⟨_, rfl⟩
      rw [hg] at q1 ⊢
      simp only [List.length_map]
      rw [q1] at hsub ⊢
      exact own_sp F x.subst [] w1 (by simpa using hsub)
    · refine owned_of_block h1.nums fun g cur hv hc => hne g fun e' => ?_
      rcases h1.nums.2 with ⟨hv0, _⟩ | ⟨g', cap', cur', hv0, _⟩
      · rw [hv0] at hv; cases hv
      · rw [hv0] at hv
        simp [Value.ownBlock] at hv
        subst hv
        injection hv0 with e1
        exact h.two _ q1 (by rw [e1, e'])
  generalize setAll F w1 (spF (blkOf y.sa) 0 x.subst) = w2 at h2 ⊢
  -- the states
  have hk3 : ∀ g, (∀ cs : Array Value, w2.heap[g]? ≠ some (Obj.cells cs 42 (0, 0))) → (setAll F w2 (epS y.sl x.states)).heap[g]? = w2.heap[g]? := fun g hg => setAll_other F _ _ _ fun a ha e => by
    obtain ⟨cs2, hc⟩ := h2.epBlk a ha
    rw [e] at hc
    exact hg _ hc
  have hk4 : ∀ {e : TypeId} {size : Nat} {v : Value} {n : Nat} {xs : List Value}, e ≠ 42 → w2.ownsRow base e size v n xs → (setAll F w2 (epS y.sl x.states)).ownsRow base e size v n xs := fun he ho =>
    owned_of_block ho fun g cur _ hc => hk3 g fun cs e' => by rw [hc] at e'; cases e'; exact he rfl
  refine ⟨h2.fro, ?_, hk4 (by decide) h2.defs, hk4 (by decide) h2.subst, hk4 (by decide) h2.nums, ?_, own_eps F y.sl x.states w2 h2.rows h2.apart, h2.apart, h2.two⟩
  · rw [hk3 wb (fun cs e => by rw [h2.box] at e; cases e), h2.box]
    simp [wkCells, rnR]
  · have := hk4 (by decide) h2.states
    simpa [rnR] using this
end
end Go.Proofs.Ytolehoibpnenlab
