/-
  The document's own sorting of paths.
-/
import Derived.Test.YtegndeefddlccaaQaA
import Derived.Test.YtegndeefddlccaaPyD
import Derived.Test.YtegndeefddlccaaPxA
import Derived.Laws.AppendOwn
import Derived.BigRegion
import Derived.Deep.RegionHeld3
namespace Go.Proofs.Ytegndeefddlccaa
open Go.RowKit

/-- A slice of paths that can be read. -/
structure PtsAt (w : World) (ao : Option Addr) (len : Nat) (l : List Pt) : Prop where
  length : l.length = len
  short : len ≤ 100000000
  cols : ∀ p ∈ l, p.cols.length ≤ 1000000
  cells : 0 < len → ∃ g off, ao = some ⟨g, off, none⟩ ∧ ∀ (i : Nat) (p : Pt), l[i]? = some p → w.cell? ⟨g, off + i * 3, none⟩ = some (.int .i64 p.i) ∧ w.cell? ⟨g, off + i * 3 + 1, none⟩ = some (.int .i64 p.j) ∧ w.cell? ⟨g, off + i * 3 + 2, none⟩ = some (.string (bs p.cols))
theorem PtsAt.below {w w' : World} {ao : Option Addr} {len : Nat} {l : List Pt} (h : PtsAt w ao len l) (hb : Below w.heap.size w w') : PtsAt w' ao len l := by
  refine ⟨h.length, h.short, h.cols, fun h0 => ?_⟩
  obtain ⟨g, off, e, hc⟩ := h.cells h0
  refine ⟨g, off, e, fun i p hi => ?_⟩
  obtain ⟨c1, c2, c3⟩ := hc i p hi
  exact ⟨by rw [hb.cell (World.block_lt_of_cell? w _ c1)]; exact c1, by rw [hb.cell (World.block_lt_of_cell? w _ c2)]; exact c2, by rw [hb.cell (World.block_lt_of_cell? w _ c3)]; exact c3⟩
theorem ptRow_get (l : List Pt) : ∀ (k : Nat) (p : Pt), l[k]? = some p → (ptRow l)[k * 3]? = some (.int .i64 p.i) ∧ (ptRow l)[k * 3 + 1]? = some (.int .i64 p.j) ∧ (ptRow l)[k * 3 + 2]? = some (.string (bs p.cols)) := by
  induction l with
  | nil => intro k p h; simp at h
  | cons q l ih =>
    intro k p h
    have e : ptRow (q :: l) = .int .i64 q.i :: .int .i64 q.j :: .string (bs q.cols) :: ptRow l := rfl
    rw [e]
    cases k with
    | zero => simp at h; subst h; exact ⟨rfl, rfl, rfl⟩
    | succ k =>
      have := ih k p (by simpa using h)
      rw [show (k + 1) * 3 = k * 3 + 3 by omega]
      exact this
theorem pts_own {w : World} {base : Nat} {ao : Option Addr} {n cap : Nat} {l : List Pt} (h : w.ownsRow base 33 3 (.slice ao n cap) n (ptRow l)) (hn : l.length = n) (hs : n ≤ 100000000) (hc : ∀ p ∈ l, p.cols.length ≤ 1000000) : PtsAt w ao n l ∧ n ≤ cap := by
  rcases h.2 with ⟨hv, h0⟩ | ⟨g, cap', cur, hv, hb, hg, h1, h2, h3, h4⟩
  · cases hv
    exact ⟨⟨hn, hs, hc, fun h => by omega⟩, by omega⟩
  · cases hv
    refine ⟨⟨hn, hs, hc, fun _ => ⟨g, 0, rfl, fun i p hi => ?_⟩⟩, by assumption⟩
    obtain ⟨r1, r2, r3⟩ := ptRow_get l i p hi
    simp only [Nat.zero_add]
    exact ⟨row_cell h rfl _ _ r1, row_cell h rfl _ _ r2, row_cell h rfl _ _ r3⟩
theorem PtsAt.take {w : World} {ao : Option Addr} {len k : Nat} {l : List Pt} (h : PtsAt w ao len l) (hk : k ≤ len) : PtsAt w ao k (l.take k) := by
  refine ⟨by rw [List.length_take, h.length]; omega, by have := h.short; omega, fun p hp => h.cols p (List.mem_of_mem_take hp), fun h0 => ?_⟩
  obtain ⟨g, off, e, hc⟩ := h.cells (by omega)
  refine ⟨g, off, e, fun i p hi => hc i p ?_⟩
  have hik : i < k := by
    have := (List.getElem?_eq_some_iff.1 hi).1
    rw [List.length_take] at this
    omega
  rw [List.getElem?_take_of_lt hik] at hi
  exact hi
theorem PtsAt.drop {w : World} {g off : Nat} {len k : Nat} {l : List Pt} (h : PtsAt w (some ⟨g, off, none⟩) len l) (hk : k < len) : PtsAt w (some ⟨g, off + k * 3, none⟩) (len - k) (l.drop k) := by
  refine ⟨by rw [List.length_drop, h.length], by have := h.short; omega, fun p hp => h.cols p (List.mem_of_mem_drop hp), fun h0 => ?_⟩
  obtain ⟨g', off', e, hc⟩ := h.cells (by omega)
  cases e
  refine ⟨g, _, rfl, fun i p hi => ?_⟩
  rw [List.getElem?_drop] at hi
  have := hc _ p hi
  rw [show off + k * 3 + i * 3 = off + (k + i) * 3 by omega]
  exact this
theorem sort_len : ∀ (n : Nat) (l : List Pt), (sortF n l).length = l.length
  | 0, _ => rfl
  | n + 1, l => by
    rw [sortF]
    split
    · rfl
    · rw [List.length_merge, sort_len n, sort_len n, List.length_take, List.length_drop]; omega
theorem sort_cols {n : Nat} {l : List Pt} (h : ∀ p ∈ l, p.cols.length ≤ 1000000) : ∀ p ∈ sortF n l, p.cols.length ≤ 1000000 := fun p hp => h p ((sort_mem n l p).1 hp)
theorem merge_l {A D : List Pt} {a b : Nat} {x : Pt} (hx : A[a]? = some x) (h : b = D.length ∨ ∃ y, D[b]? = some y ∧ lessB x y = true) (hb : b ≤ D.length) : (A.drop a).merge (D.drop b) lessB = x :: (A.drop (a + 1)).merge (D.drop b) lessB := by
  obtain ⟨ha, e⟩ := List.getElem?_eq_some_iff.1 hx
  rw [List.drop_eq_getElem_cons ha, e]
  rcases h with rfl | ⟨y, hy, hl⟩
  · rw [List.drop_length, List.merge_right, List.merge_right]
  · obtain ⟨hb, e2⟩ := List.getElem?_eq_some_iff.1 hy
    rw [List.drop_eq_getElem_cons hb, e2, List.cons_merge_cons, if_pos hl]
theorem merge_r {A D : List Pt} {a b : Nat} {y : Pt} (hy : D[b]? = some y) (h : a = A.length ∨ ∃ x, A[a]? = some x ∧ lessB x y = false) : (A.drop a).merge (D.drop b) lessB = y :: (A.drop a).merge (D.drop (b + 1)) lessB := by
  obtain ⟨hb, e⟩ := List.getElem?_eq_some_iff.1 hy
  rw [List.drop_eq_getElem_cons hb, e]
  rcases h with rfl | ⟨x, hx, hl⟩
  · rw [List.drop_length, List.nil_merge, List.nil_merge]
  · obtain ⟨ha, e2⟩ := List.getElem?_eq_some_iff.1 hx
    rw [List.drop_eq_getElem_cons ha, e2, List.cons_merge_cons, if_neg (by rw [hl]; decide)]
theorem cells_new (W : World) (l : List Value) (ty : TypeId) : ∀ (i : Nat) (u : Value), l[i]? = some u → (W.alloc (.cells l.toArray ty)).cell? ((⟨W.heap.size, 0, none⟩ : Addr).add i) = some u := by
  intro i u hu
  rw [Go.WideShapes.add_plain, Nat.zero_add]
  exact cell_block (heap_alloc_new W _) i u (by simpa using hu)
def SortPost (ao0 : Option Addr) (len : Nat) (l : List Pt) (w : World) (e : Ending) (w' : World) : Prop :=
  ∃ ao cap, e = .returned (.slice ao len cap) ∧ len ≤ cap ∧ PtsAt w' ao len l ∧ Below w.heap.size w w' ∧ (ao = ao0 ∨ ∀ ad, ao = some ad → w.heap.size ≤ ad.block)
theorem pt_one (p : Pt) : ∀ u ∈ [Value.int .i64 p.i, .int .i64 p.j, .string (bs p.cols)], u.oneCell' = true := by
  intro u hu
  simp at hu
  rcases hu with rfl | rfl | rfl <;> rfl
theorem below_app {B n : Nat} {e : TypeId} {size : Nat} {v : Value} {xs : List Value} {w w3 : World} (hown : w.ownsRow B e size v n xs) (hB : B ≤ w.heap.size) {o : Obj} (hg : (w.alloc o).grownBy w3 v.ownBlock) : Below B w w3 :=
  Below.grown ((Below.refl _ _).alloc hB o) hg (by simp; omega) (fun j hj => (hown.lt _ hj).1)
theorem shape_pts {w : World} {base : Nat} {e : TypeId} {size : Nat} {v : Value} {n : Nat} {xs : List Value} (h : w.ownsRow base e size v n xs) : ∃ ao cap, v = .slice ao n cap := by
  rcases h.2 with ⟨hv, h0⟩ | ⟨g, cap, cur, hv, _⟩
  · subst h0; exact ⟨none, 0, hv⟩
  · exact ⟨_, cap, hv⟩
/-- Between two rounds of the merging. -/
structure MgAt (w2 : World) (A D : List Pt) (k q a b : Nat) (v : Value) (wr : World) : Prop where
  ex : ∃ O : List Pt, O.length = a + b ∧ O ++ (A.drop a).merge (D.drop b) lessB = A.merge D lessB ∧ wr.ownsRow w2.heap.size 33 3 v (a + b) (ptRow O)
  bel : Below w2.heap.size w2 wr
theorem MgAt.own {w2 : World} {A D : List Pt} {k q a b : Nat} {v : Value} {wr : World} (h : MgAt w2 A D k q a b v wr) : wr.ownsRow w2.heap.size 33 3 v (a + b) (ptRow h.ex.choose) := h.ex.choose_spec.2.2
theorem MgAt.next {w2 : World} {A D : List Pt} {k q a b : Nat} {v : Value} {wr : World} (h : MgAt w2 A D k q a b v wr) {w3 : World} (hb : Below wr.heap.size wr w3) : MgAt w2 A D k q a b v w3 := by
  obtain ⟨O, e1, e2, e3⟩ := h.ex
  refine ⟨⟨O, e1, e2, e3.1, ?_⟩, h.bel.trans (hb.mono h.bel.size)⟩
  rcases e3.2 with h0 | ⟨g, cap, cur, hv, hbb, hc, hr⟩
  · exact .inl h0
  · exact .inr ⟨g, cap, cur, hv, hbb, by rw [hb.block _ (Array.getElem?_eq_some_iff.1 hc).1]; exact hc, hr⟩
theorem MgAt.snoc {w2 : World} {A D : List Pt} {k q a b : Nat} {v : Value} {wr : World} (h : MgAt w2 A D k q a b v wr) {v' : Value} {w3 : World} {o : Obj} {x : Pt} {a2 b2 : Nat} (ho : w3.ownsRow w2.heap.size 33 3 v' (a + b + 1) (ptRow h.ex.choose ++ [.int .i64 x.i, .int .i64 x.j, .string (bs x.cols)])) (hg : (wr.alloc o).grownBy w3 v.ownBlock) (hab : a2 + b2 = a + b + 1)
    (hm : (A.drop a).merge (D.drop b) lessB = x :: (A.drop a2).merge (D.drop b2) lessB) : MgAt w2 A D k q a2 b2 v' w3 := by
  have hb := below_app h.own h.bel.size hg
  have sp := h.ex.choose_spec
  revert ho sp
  generalize h.ex.choose = O
  intro ho sp
  obtain ⟨e1, e2, _⟩ := sp
  refine ⟨⟨O ++ [x], by rw [List.length_append, e1, hab]; rfl, by rw [← e2, hm]; simp, ?_⟩, h.bel.trans hb⟩
  rw [ptRow_snoc, hab]
  exact ho
set_option maxRecDepth 20000 in
set_option maxHeartbeats 4000000 in
theorem sorted_calls : ∀ (n : Nat) (ao : Option Addr) (len cap : Nat) (l : List Pt) (w : World), PtsAt w ao len l → len ≤ cap → len ≤ n + 1 → Calls Try.prog 37 #[.slice ao len cap] w fun e w' => SortPost ao len (sortF n l) w e w'
  | n, ao, len, cap, l, w, h, hc, hn => by
    by_cases h2 : len < 2
    · have HE : Hid (sortF n l = l) := by
        show _ = _
        cases n with
        | zero => rfl
        | succ n => rw [sortF, if_pos (by rw [h.length]; exact h2)]
      have d2 : decide ((len : Int) < 2) = true := by simp; omega
      have HP : Hid (PtsAt w ao len l) := h
      clear h
      go_enter Try.func37, Try.ntmps37
      go_wp2
      go_ret
      rw [HE.out]
      exact ⟨ao, cap, rfl, hc, HP.out, Below.refl _ _, .inl rfl⟩
    · cases n with
      | zero => omega
      | succ n =>
        have d2 : decide ((len : Int) < 2) = false := by simp; omega
        obtain ⟨k, hk⟩ : ∃ k, len / 2 = k := ⟨_, rfl⟩
        have hk1 : k ≤ len := by omega
        have hk2 : k < len := by omega
        have hq : (len : Int) / 2 = (k : Int) := by omega
        have hq2 : (len : Int).tdiv 2 = (k : Int) := by rw [Int.tdiv_eq_ediv_of_nonneg (by omega)]; exact hq
        obtain ⟨g, off, rfl, _⟩ := h.cells (by omega)
        have HE : Hid (sortF (n + 1) l = (sortF n (l.take k)).merge (sortF n (l.drop k)) lessB) := by
          show _ = _
          rw [sortF, if_neg (by rw [h.length]; omega), h.length, hk]
        have IH1 : Hid (Calls Try.prog 37 #[.slice (some ⟨g, off, none⟩) k cap] w fun e w' => SortPost (some ⟨g, off, none⟩) k (sortF n (l.take k)) w e w') := sorted_calls n _ k cap (l.take k) w (h.take hk1) (by omega) (by omega)
        have IH2 : Hid (∀ W, Below w.heap.size w W → Calls Try.prog 37 #[.slice (some ⟨g, off + k * 3, none⟩) (len - k) (cap - k)] W fun e w' => SortPost (some ⟨g, off + k * 3, none⟩) (len - k) (sortF n (l.drop k)) W e w') := fun W hW => sorted_calls n _ (len - k) (cap - k) (l.drop k) W ((h.below hW).drop hk2) (by omega) (by omega)
        have hsh := h.short
        have HA : Hid ((sortF n (l.take k)).length = k ∧ (sortF n (l.drop k)).length = len - k) := ⟨by rw [sort_len, List.length_take, h.length]; omega, by rw [sort_len, List.length_drop, h.length]⟩
        rw [HE.out]
        clear HE h hk hn
        obtain ⟨A, hA⟩ : ∃ A, sortF n (l.take k) = A := ⟨_, rfl⟩
        obtain ⟨D, hD⟩ : ∃ D, sortF n (l.drop k) = D := ⟨_, rfl⟩
        rw [hA, hD] at HA ⊢
        rw [hA] at IH1
        rw [hD] at IH2
        clear hA hD
        go_enter Try.func37, Try.ntmps37
        go_wp2_with fail
        refine IH1.out.mono ?_
        rintro e w1 ⟨aa, ca, rfl, hca, hpa, hb1, _⟩
        have HPA : Hid (PtsAt w1 aa k A) := hpa
        have HB1 : Hid (Below w.heap.size w w1) := hb1
        clear hpa hb1 IH1
        go_wp2_with fail
        refine (IH2.out w1 HB1.out).mono ?_
        rintro e w2 ⟨ab, cb, rfl, hcb, hpb, hb2, _⟩
        have HPD : Hid (PtsAt w2 ab (len - k) D) := hpb
        have HPA2 : Hid (PtsAt w2 aa k A) := HPA.out.below hb2
        have HB2 : Hid (Below w.heap.size w w2) := HB1.out.trans (hb2.mono HB1.out.size)
        clear hpb hb2 IH2 HPA HB1
        obtain ⟨q, hq3⟩ : ∃ q, len - k = q := ⟨_, rfl⟩
        have HQ : Hid (k + q = len) := by show _ = _; omega
        rw [hq3] at HPD HA hcb ⊢
        have hkq : k + q ≤ 100000000 := by omega
        have hk0 : 0 < k := by omega
        have hq0 : 0 < q := by omega
        clear hq3 hq hq2 hk1 hk2 d2 h2 hc hsh
        obtain ⟨i33, hi, hz0, hz1, hz2⟩ := info_parts info33
        obtain ⟨ag, ao', rfl, hca2⟩ := HPA2.out.cells hk0
        obtain ⟨dg, do', rfl, hcd2⟩ := HPD.out.cells hq0
        clear hca2 hcd2
        go_wp2
        go_loopw [5, 6, 7] (fun v i j wq => ∃ (a b : Nat), a ≤ k ∧ b ≤ q ∧ i = .int .i64 a ∧ j = .int .i64 b ∧ MgAt w2 A D k q a b v wq) (fun _ i j _ => k + q - ((intOf i).toNat + (intOf j).toNat))
        case atStart => exact ⟨0, 0, Nat.zero_le _, Nat.zero_le _, rfl, rfl, ⟨[], rfl, rfl, World.ownsRow_nil _ _ _ _⟩, Below.refl _ _⟩
        case round =>
          obtain ⟨a, b, ha, hb, rfl, rfl, hmg⟩ := hrel
          obtain ⟨av, cav, rfl⟩ := shape_pts hmg.own
          have HO : Hid (MgAt w2 A D k q a b (.slice av (a + b) cav) wr) := hmg
          have hsw : w2.heap.size ≤ wr.heap.size := hmg.bel.size
          clear hmg
          by_cases hak : a < k
          · have da : decide ((a : Int) < (k : Int)) = true := by simp; omega
            obtain ⟨x, hx⟩ : ∃ x, A[a]? = some x := ⟨_, List.getElem?_eq_getElem (by rw [HA.out.1]; exact hak)⟩
            have HX : Hid (A[a]? = some x) := hx
            have HXC : Hid (∀ W, Below w2.heap.size w2 W → W.cell? ⟨ag, ao' + a * 3, none⟩ = some (.int .i64 x.i) ∧ W.cell? ⟨ag, ao' + a * 3 + 1, none⟩ = some (.int .i64 x.j) ∧ W.cell? ⟨ag, ao' + a * 3 + 2, none⟩ = some (.string (bs x.cols))) := fun W hW => by
              obtain ⟨g', o', e, hcc⟩ := (HPA2.out.below hW).cells hk0
              cases e
              exact hcc a x HX.out
            obtain ⟨x1, x2, x3⟩ := HXC.out _ HO.out.bel
            clear hx
            by_cases hbq : b < q
            · have db : decide ((b : Int) < (q : Int)) = true := by simp; omega
              have eb : ((b : Int) == (q : Int)) = false := by simp; omega
              obtain ⟨y, hy⟩ : ∃ y, D[b]? = some y := ⟨_, List.getElem?_eq_getElem (by rw [HA.out.2]; exact hbq)⟩
              have HY : Hid (D[b]? = some y) := hy
              have HYC : Hid (∀ W, Below w2.heap.size w2 W → W.cell? ⟨dg, do' + b * 3, none⟩ = some (.int .i64 y.i) ∧ W.cell? ⟨dg, do' + b * 3 + 1, none⟩ = some (.int .i64 y.j) ∧ W.cell? ⟨dg, do' + b * 3 + 2, none⟩ = some (.string (bs y.cols))) := fun W hW => by
                obtain ⟨g', o', e, hcc⟩ := (HPD.out.below hW).cells hq0
                cases e
                exact hcc b y HY.out
              clear hy
              obtain ⟨L, hL⟩ : ∃ L, lessB x y = L := ⟨_, rfl⟩
              have HL : Hid (lessB x y = L) := hL
              have CL : Hid (∀ W, Calls Try.prog 22 #[.agg #[.int .i64 x.i, .int .i64 x.j, .string (bs x.cols)], .agg #[.int .i64 y.i, .int .i64 y.j, .string (bs y.cols)]] W fun e w' => e = .returned (.bool L) ∧ Below W.heap.size W w') := fun W => by
                have := lessR_calls x.i x.j y.i y.j (bs x.cols) (bs y.cols) W (by rw [bs_len]; have := HPA2.out.cols x (List.mem_of_getElem? HX.out); omega) (by rw [bs_len]; have := HPD.out.cols y (List.mem_of_getElem? HY.out); omega)
                rw [bs_back, bs_back] at this
                rw [show lessB ⟨x.i, x.j, x.cols⟩ ⟨y.i, y.j, y.cols⟩ = L from hL] at this
                exact this
              clear hL x1 x2 x3
              have HJ : Hid (∀ W, Hid (MgAt w2 A D k q a b (.slice av (a + b) cav) W) → (W.cell? ⟨ag, ao' + a * 3, none⟩ = some (.int .i64 x.i) ∧ W.cell? ⟨ag, ao' + a * 3 + 1, none⟩ = some (.int .i64 x.j) ∧ W.cell? ⟨ag, ao' + a * 3 + 2, none⟩ = some (.string (bs x.cols))) ∧ W.cell? ⟨dg, do' + b * 3, none⟩ = some (.int .i64 y.i) ∧ W.cell? ⟨dg, do' + b * 3 + 1, none⟩ = some (.int .i64 y.j) ∧ W.cell? ⟨dg, do' + b * 3 + 2, none⟩ = some (.string (bs y.cols))) := fun W hW => ⟨HXC.out _ hW.out.bel, HYC.out _ hW.out.bel⟩
              obtain ⟨J, hJ⟩ : ∃ J : World → Prop, J = MgAt w2 A D k q a b (.slice av (a + b) cav) := ⟨_, rfl⟩
              have HJE : Hid (J = MgAt w2 A D k q a b (.slice av (a + b) cav)) := hJ
              have HJC : Hid (∀ W, J W → (W.cell? ⟨ag, ao' + a * 3, none⟩ = some (.int .i64 x.i) ∧ W.cell? ⟨ag, ao' + a * 3 + 1, none⟩ = some (.int .i64 x.j) ∧ W.cell? ⟨ag, ao' + a * 3 + 2, none⟩ = some (.string (bs x.cols))) ∧ W.cell? ⟨dg, do' + b * 3, none⟩ = some (.int .i64 y.i) ∧ W.cell? ⟨dg, do' + b * 3 + 1, none⟩ = some (.int .i64 y.j) ∧ W.cell? ⟨dg, do' + b * 3 + 2, none⟩ = some (.string (bs y.cols))) := by rw [hJ]; exact fun W hW => HJ.out W hW
              have HJN : Hid (∀ W W2, J W → Below W.heap.size W W2 → J W2) := by rw [hJ]; exact fun W W2 h1 h2 => h1.next h2
              have j0 : J wr := by rw [hJ]; exact HO.out
              have jd : J wr.drew := HJN.out _ _ j0 (Below.refl _ _).drew
              clear hJ HJ HO
              go_wp2_with fail
              go_region_held3 (fun W => J W ∧ (W.cell? ⟨ag, ao' + a * 3, none⟩ = some (.int .i64 x.i) ∧ W.cell? ⟨ag, ao' + a * 3 + 1, none⟩ = some (.int .i64 x.j) ∧ W.cell? ⟨ag, ao' + a * 3 + 2, none⟩ = some (.string (bs x.cols))) ∧ W.cell? ⟨dg, do' + b * 3, none⟩ = some (.int .i64 y.i) ∧ W.cell? ⟨dg, do' + b * 3 + 1, none⟩ = some (.int .i64 y.j) ∧ W.cell? ⟨dg, do' + b * 3 + 2, none⟩ = some (.string (bs y.cols))) (first | with_reducible assumption | (refine ⟨?_, HJC.out _ ?_⟩ <;> with_reducible assumption)) (first
                | (go_at_call 22; (with_reducible refine (CL.out _).mono ?_); rintro e w6 ⟨rfl, hb6⟩; have j6 : J w6 := HJN.out _ _ (by with_reducible assumption) hb6; clear hb6))
              rename_i hh
              clear hh j0 jd
              have HO : Hid (MgAt w2 A D k q a b (.slice av (a + b) cav) w6) := by rw [← HJE.out]; exact j6
              obtain ⟨⟨x1, x2, x3⟩, y1, y2, y3⟩ := HJC.out _ j6
              have hsw6 : w2.heap.size ≤ w6.heap.size := HO.out.bel.size
              clear j6 HJE HJC HJN CL hsw
              cases L with
              | true =>
                go_wp2_with (at_builtin; go_loud (refine wpList_append_own _ rfl _ _ 38 rfl w2.heap.size 33 i33 _ 3 32 Try.underlying38 hi hz0 hz1 hz2 rfl (by decide) (.slice av (a + b) cav) _ _ rfl (HO.out.own.alloc _) ⟨_, 0, none⟩ 1 1 [.int .i64 x.i, .int .i64 x.j, .string (bs x.cols)] rfl rfl (cells_new _ [.int .i64 x.i, .int .i64 x.j, .string (bs x.cols)] 33) (pt_one x) (by unfold maxLen; omega) (by omega) (by simp; omega) ?_))
                intro v' w3 hown' hgrow _
                have HO3 : Hid (MgAt w2 A D k q (a + 1) b v' w3) := HO.out.snoc hown' hgrow (by omega) (merge_l HX.out (.inr ⟨y, HY.out, HL.out⟩) (by rw [HA.out.2]; exact hb))
                clear hown' hgrow HO
                go_wp2
                go_roundw
                case rel => exact ⟨(a + 1), b, by omega, by omega, by go_num, by go_num, HO3.out⟩
                case measure => simp [intOf]; omega

              | false =>
                go_wp2_with (at_builtin; go_loud (refine wpList_append_own _ rfl _ _ 38 rfl w2.heap.size 33 i33 _ 3 32 Try.underlying38 hi hz0 hz1 hz2 rfl (by decide) (.slice av (a + b) cav) _ _ rfl (HO.out.own.alloc _) ⟨_, 0, none⟩ 1 1 [.int .i64 y.i, .int .i64 y.j, .string (bs y.cols)] rfl rfl (cells_new _ [.int .i64 y.i, .int .i64 y.j, .string (bs y.cols)] 33) (pt_one y) (by unfold maxLen; omega) (by omega) (by simp; omega) ?_))
                intro v' w3 hown' hgrow _
                have HO3 : Hid (MgAt w2 A D k q a (b + 1) v' w3) := HO.out.snoc hown' hgrow (by omega) (merge_r HY.out (.inr ⟨x, HX.out, HL.out⟩))
                clear hown' hgrow HO
                go_wp2
                go_roundw
                case rel => exact ⟨a, (b + 1), by omega, by omega, by go_num, by go_num, HO3.out⟩
                case measure => simp [intOf]; omega

            · have db : decide ((b : Int) < (q : Int)) = false := by simp; omega
              have eb : ((b : Int) == (q : Int)) = true := by simp; omega
              go_wp2_with (at_builtin; go_loud (refine wpList_append_own _ rfl _ _ 38 rfl w2.heap.size 33 i33 _ 3 32 Try.underlying38 hi hz0 hz1 hz2 rfl (by decide) (.slice av (a + b) cav) _ _ rfl (HO.out.own.alloc _) ⟨_, 0, none⟩ 1 1 [.int .i64 x.i, .int .i64 x.j, .string (bs x.cols)] rfl rfl (cells_new _ [.int .i64 x.i, .int .i64 x.j, .string (bs x.cols)] 33) (pt_one x) (by unfold maxLen; omega) (by omega) (by simp; omega) ?_))
              intro v' w3 hown' hgrow _
              have HO3 : Hid (MgAt w2 A D k q (a + 1) b v' w3) := HO.out.snoc hown' hgrow (by omega) (merge_l HX.out (.inl (by rw [HA.out.2]; omega)) (by rw [HA.out.2]; exact hb))
              clear hown' hgrow HO
              go_wp2
              go_roundw
              case rel => exact ⟨(a + 1), b, by omega, by omega, by go_num, by go_num, HO3.out⟩
              case measure => simp [intOf]; omega

          · have da : decide ((a : Int) < (k : Int)) = false := by simp; omega
            by_cases hbq : b < q
            · have db : decide ((b : Int) < (q : Int)) = true := by simp; omega
              have eb : ((b : Int) == (q : Int)) = false := by simp; omega
              obtain ⟨y, hy⟩ : ∃ y, D[b]? = some y := ⟨_, List.getElem?_eq_getElem (by rw [HA.out.2]; exact hbq)⟩
              have HY : Hid (D[b]? = some y) := hy
              have HYC : Hid (∀ W, Below w2.heap.size w2 W → W.cell? ⟨dg, do' + b * 3, none⟩ = some (.int .i64 y.i) ∧ W.cell? ⟨dg, do' + b * 3 + 1, none⟩ = some (.int .i64 y.j) ∧ W.cell? ⟨dg, do' + b * 3 + 2, none⟩ = some (.string (bs y.cols))) := fun W hW => by
                obtain ⟨g', o', e, hcc⟩ := (HPD.out.below hW).cells hq0
                cases e
                exact hcc b y HY.out
              obtain ⟨y1, y2, y3⟩ := HYC.out _ HO.out.bel
              clear hy
              go_wp2_with (at_builtin; go_loud (refine wpList_append_own _ rfl _ _ 38 rfl w2.heap.size 33 i33 _ 3 32 Try.underlying38 hi hz0 hz1 hz2 rfl (by decide) (.slice av (a + b) cav) _ _ rfl (HO.out.own.alloc _) ⟨_, 0, none⟩ 1 1 [.int .i64 y.i, .int .i64 y.j, .string (bs y.cols)] rfl rfl (cells_new _ [.int .i64 y.i, .int .i64 y.j, .string (bs y.cols)] 33) (pt_one y) (by unfold maxLen; omega) (by omega) (by simp; omega) ?_))
              intro v' w3 hown' hgrow _
              have HO3 : Hid (MgAt w2 A D k q a (b + 1) v' w3) := HO.out.snoc hown' hgrow (by omega) (merge_r HY.out (.inl (by rw [HA.out.1]; omega)))
              clear hown' hgrow HO
              go_wp2
              go_roundw
              case rel => exact ⟨a, (b + 1), by omega, by omega, by go_num, by go_num, HO3.out⟩
              case measure => simp [intOf]; omega

            · have db : decide ((b : Int) < (q : Int)) = false := by simp; omega
              have HF : Hid (SortPost (some ⟨g, off, none⟩) len (A.merge D lessB) w (.returned (.slice av (a + b) cav)) wr) := by
                have hak' : a = k := by omega
                have hbq' : b = q := by omega
                obtain ⟨O, e1, e2, e3⟩ := HO.out.ex
                rw [List.drop_of_length_le (by rw [HA.out.1]; omega), List.drop_of_length_le (by rw [HA.out.2]; omega)] at e2
                have e4 : O = A.merge D lessB := by simpa using e2
                rw [e4] at e1 e3
                have hpo := pts_own e3 e1 (by omega) (fun p hp => by
                  rcases List.mem_merge.1 hp with hp | hp
                  · exact HPA2.out.cols p hp
                  · exact HPD.out.cols p hp)
                have hlen : a + b = len := by rw [hak', hbq']; exact HQ.out
                rw [hlen] at hpo ⊢
                refine ⟨av, cav, rfl, hpo.2, hpo.1, HB2.out.trans (HO.out.bel.mono HB2.out.size), .inr fun ad e => ?_⟩
                have h5 := (e3.lt ad.block (by rw [e]; rfl)).1
                have h6 := HB2.out.size
                omega
              clear HO HA HQ
              go_wp2
              go_ret
              exact HF.out

end Go.Proofs.Ytegndeefddlccaa
