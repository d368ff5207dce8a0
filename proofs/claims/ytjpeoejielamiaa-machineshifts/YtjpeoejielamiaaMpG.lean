/-
  What stands at a cell hangs on what is behind it: cut sequences, a narrower band.
-/
import Derived.Test.YtjpeoejielamiaaMpF
namespace Go.Proofs.Ytjpeoejielamiaa
open Go.RowKit

/-- The state in which a cell is run. -/
structure AtCell (c : Cd) (K T : Int) (x y : List Int) (i j : Nat) (R M0 : Ms) : Prop where
  back : backB2 c (((i : Int) + j) * (T * K)) x.length y.length M0.slots i j
  ends : bnd B62 M0.ends.score
  same : ∀ u v p : Nat, v ≤ y.length → p < c.planes.toNat → lexB u v i j → M0.slots (placeB c.planes.toNat y.length p u v) = R.slots (placeB c.planes.toNat y.length p u v)
  here : ∀ p : Nat, p < c.planes.toNat → R.slots (placeB c.planes.toNat y.length p i j) = (c.cell.foldl (actB c x y i j) M0).slots (placeB c.planes.toNat y.length p i j)
theorem runB_step {c : Cd} (hg : Gk c) {K T : Int} (hl : Lm c K T) (x y : List Int) (hx : (x.length : Int) ≤ c.most) (hy : (y.length : Int) ≤ c.most) {pre : List (Nat × Nat)} {i j : Nat} {M : Ms} (hi : i ≤ x.length) (hj : j ≤ y.length) (h : RunB c K T x.length y.length pre M) : RunB c K T x.length y.length (pre ++ [(i, j)]) (cellM c x y i j M) := by
  have hd := hl.d0
  have hm := hl.cell (n := (i : Int) + j) (by omega)
  have hc := cell_bound hg hl hi hj ⟨hm.2, hm.1⟩ (run_back hl h.slots) h.ends
  have hfr : ∀ k, (∀ p, p < c.planes.toNat → k ≠ placeB c.planes.toNat y.length p i j) → (cellM c x y i j M).slots k = M.slots k := fun k hk => cell_frame hg x y i j M k hk
  refine ⟨fun u v p hv hp => ?_, fun u v p hv hp huv => ?_, hc.ends⟩
  · by_cases he : u = i ∧ v = j
    · obtain ⟨rfl, rfl⟩ := he
      have hall : ((goP c (st0 0) 0 c.cell).2.pl p).1 = true := by
        have := hg.all
        unfold allK at this
        rw [List.all_eq_true] at this
        exact this p (List.mem_range.2 hp)
      have h1 := hc.pl p hp hall
      refine bnd_mono h1.2 ?_
      have h2 := hl.le (x := ((goP c (st0 0) 0 c.cell).2.pl p).2) (by have := h1.1.2; have := hl.top; omega)
      rw [Int.add_mul _ 1, Int.one_mul]
      omega
    · show bnd _ ((cellM c x y i j M).slots _).num
      rw [hfr _ fun p' hp' e => he (place_inj hp hp' hv hj e).2]
      exact h.slots u v p hv hp
  · have hne : ¬ (u = i ∧ v = j) := fun e => huv (by rw [e.1, e.2]; simp)
    show (cellM c x y i j M).slots _ = ct0
    rw [hfr _ fun p' hp' e => hne (place_inj hp hp' hv hj e).2]
    exact h.off u v p hv hp fun hm => huv (List.mem_append_left _ hm)
theorem run_loc {c : Cd} (hg : Gk c) {K T : Int} (hl : Lm c K T) (x y : List Int) (hx : (x.length : Int) ≤ c.most) (hy : (y.length : Int) ≤ c.most) :
    RunB c K T x.length y.length (cellsL c x.length y.length) (runM c x y) ∧ ∀ u v, (u, v) ∈ cellsL c x.length y.length → ∃ M0, AtCell c K T x y u v (runM c x y) M0 := by
  have hd := hl.d0
  rw [runM_cells]
  refine cells_ind c x.length y.length (fun M p => cellM c x y p.1 p.2 M) ms0 (fun pre M => RunB c K T x.length y.length pre M ∧ ∀ u v, (u, v) ∈ pre → ∃ M0, AtCell c K T x y u v M M0) ⟨⟨fun u v p _ _ => bnd_zero (Int.mul_nonneg (by omega) hd), fun _ _ _ _ _ _ => rfl, bnd_zero (by decide)⟩, fun u v h => by simp at h⟩ ?_
  rintro pre i j M hi hj hb hpre ⟨h, hat⟩
  have hfr : ∀ k, (∀ p, p < c.planes.toNat → k ≠ placeB c.planes.toNat y.length p i j) → (cellM c x y i j M).slots k = M.slots k := fun k hk => cell_frame hg x y i j M k hk
  refine ⟨runB_step hg hl x y hx hy hi hj h, fun u v huv => ?_⟩
  rcases List.mem_append.1 huv with hm | hm
  · obtain ⟨M0, h0⟩ := hat u v hm
    obtain ⟨⟨hu, hv, _⟩, hlx⟩ := (hpre u v).1 hm
    refine ⟨M0, h0.back, h0.ends, fun u' v' p hv' hp hl' => ?_, fun p hp => ?_⟩
    · show _ = (cellM c x y i j M).slots _
      rw [hfr _ fun p' hp' e => by
        obtain ⟨_, e2, e3⟩ := place_inj hp hp' hv' hj e
        unfold lexB at hl' hlx; omega]
      exact h0.same u' v' p hv' hp hl'
    · show (cellM c x y i j M).slots _ = _
      rw [hfr _ fun p' hp' e => by
        obtain ⟨_, e2, e3⟩ := place_inj hp hp' hv hj e
        unfold lexB at hlx; omega]
      exact h0.here p hp
  · obtain ⟨rfl, rfl⟩ : u = i ∧ v = j := by simpa using hm
    refine ⟨M, run_back hl h.slots, h.ends, fun u' v' p hv' hp hl' => ?_, fun p hp => rfl⟩
    show _ = (cellM c x y u v M).slots _
    rw [hfr _ fun p' hp' e => by
      obtain ⟨_, e2, e3⟩ := place_inj hp hp' hv' hj e
      unfold lexB at hl'; omega]
/-- What both tell one step back. -/
theorem back_rel {Rel : Ct → Ct → Prop} (h0 : Rel ct0 ct0) {P X Y X' Y' i j : Nat} {F F' : Nat → Ct} (hi : i ≤ X) (hj : j ≤ Y) (hi' : i ≤ X') (hj' : j ≤ Y')
    (h : ∀ u v p : Nat, u ≤ i → v ≤ j → u + v < i + j → p < P → lexB u v i j → Rel (F (placeB P Y p u v)) (F' (placeB P Y' p u v))) (p s : Int) (hs : 1 ≤ s ∧ s ≤ 3) :
    Rel (atB P X Y F p ((i : Int) - (backB s).1) ((j : Int) - (backB s).2)) (atB P X' Y' F' p ((i : Int) - (backB s).1) ((j : Int) - (backB s).2)) := by
  have hb := back_lex hs
  by_cases hin : (0 ≤ p ∧ p < (P : Int)) ∧ 0 ≤ (i : Int) - (backB s).1 ∧ 0 ≤ (j : Int) - (backB s).2
  · obtain ⟨⟨p1, p2⟩, u1, v1⟩ := hin
    obtain ⟨pn, rfl⟩ : ∃ n : Nat, p = n := ⟨p.toNat, by omega⟩
    obtain ⟨u, hu⟩ : ∃ n : Nat, (i : Int) - (backB s).1 = n := ⟨((i : Int) - (backB s).1).toNat, by omega⟩
    obtain ⟨v, hv⟩ : ∃ n : Nat, (j : Int) - (backB s).2 = n := ⟨((j : Int) - (backB s).2).toNat, by omega⟩
    rw [hu, hv, atB_in (by omega) (by omega) (by omega), atB_in (by omega) (by omega) (by omega)]
    exact h u v pn (by omega) (by omega) (by omega) (by omega) (by unfold lexB; omega)
  · rw [at_off (by omega), at_off (by omega)]; exact h0
theorem insR_self {c d : Cd} {KR : Int → Int → Prop} (hk : ∀ k, KR k k) (hc : d.consts = c.consts) (q : Qd) : insR c d KR q q := ⟨rfl, rfl, rfl, fun _ => rfl, fun _ => by rw [hc]; exact hk _, fun _ => by rw [hc]⟩
theorem al2_self {I : Qd → Qd → Prop} (h : ∀ q, I q q) : ∀ l, al2 I l l
  | [] => trivial
  | _ :: l => ⟨h _, al2_self h l⟩
theorem eq_ok : RelOk (fun a b => a = b) (fun _ _ => True) (fun a b => a = b) :=
  ⟨rfl, fun _ _ h => by rw [h], fun _ _ h => by rw [h], fun _ _ h => by rw [h], fun _ _ _ _ _ h h' => by rw [h, h'], fun _ _ h => by rw [h], fun _ _ _ _ _ h => by rw [h]⟩
/-- Cut there, they have the same. -/
theorem begins {c : Cd} (hg : Gk c) (x y : List Int) (hx : (x.length : Int) ≤ c.most) (hy : (y.length : Int) ≤ c.most) {k l : Nat} (hk : k ≤ x.length) (hl : l ≤ y.length) :
    ∀ (n i j : Nat), i + j = n → i ≤ k → j ≤ l → ∀ p, p < c.planes.toNat → (runM c x y).slots (placeB c.planes.toNat y.length p i j) = (runM c (x.take k) (y.take l)).slots (placeB c.planes.toNat l p i j) := by
  obtain ⟨K, T, hlm⟩ := hg.lm
  have lx : (x.take k).length = k := by rw [List.length_take]; omega
  have ly : (y.take l).length = l := by rw [List.length_take]; omega
  have h1 := run_loc hg hlm x y hx hy
  have h2 := run_loc hg hlm (x.take k) (y.take l) (by omega) (by omega)
  intro n
  induction n using Nat.strongRecOn with
  | _ n ih =>
    intro i j hn hi hj p hp
    by_cases hb : inBd c i j = true
    · obtain ⟨M0, a0⟩ := h1.2 i j ((cells_mem c _ _ _ _).2 ⟨by omega, by omega, hb⟩)
      obtain ⟨M1, a1⟩ := h2.2 i j ((cells_mem c _ _ _ _).2 ⟨by omega, by omega, hb⟩)
      have hm := hlm.cell (n := (i : Int) + j) (by omega)
      have ht : Two c c (fun a b => a = b) := ⟨rfl, rfl, rfl, rfl, rfl, al2_self (insR_self (fun _ => rfl) rfl) c.cell⟩
      have gx : 0 < i → (x.take k).getD (i - 1) 0 = x.getD (i - 1) 0 := fun h => by
        rw [List.getD, List.getD, List.getElem?_take_of_lt (by omega)]
      have gy : 0 < j → (y.take l).getD (j - 1) 0 = y.getD (j - 1) 0 := fun h => by
        rw [List.getD, List.getD, List.getElem?_take_of_lt (by omega)]
      have hcr := cell_rel eq_ok hg hg ht hlm hlm ⟨hm.2, hm.1⟩ ⟨hm.2, hm.1⟩ (x := x) (y := y) (x' := x.take k) (y' := y.take l) (i := i) (j := j) (by omega) (by omega) (by omega) (by omega) gx gy (M0 := M0) (M0' := M1)
        (back_rel rfl (by omega) (by omega) (by omega) (by omega) fun u v q hu hv huv hq hlx => by
          rw [a0.same u v q (by omega) hq hlx, a1.same u v q (by omega) hq hlx, ly]
          exact ih (u + v) (by omega) u v rfl (by omega) (by omega) q hq)
        (fun _ _ _ _ _ _ _ _ _ _ _ => trivial) a0.back a1.back a0.ends a1.ends trivial
      have hall : ((goP c (st0 0) 0 c.cell).2.pl p).1 = true := by
        have := hg.all
        unfold allK at this
        rw [List.all_eq_true] at this
        exact this p (List.mem_range.2 hp)
      have := hcr.pl p hp hall
      have e1 := a1.here p hp
      rw [ly] at e1 this
      rw [a0.here p hp, e1]
      exact this
    · have o1 := h1.1.off i j p (by omega) hp (fun h => hb ((cells_mem c _ _ _ _).1 h).2.2)
      have o2 := h2.1.off i j p (by omega) hp (fun h => hb ((cells_mem c _ _ _ _).1 h).2.2)
      rw [ly] at o2
      rw [o1, o2]
def leC (a b : Ct) : Prop := b.has = true → a.has = true ∧ b.num ≤ a.num
theorem met_leC (a a' b b' : Ct) (r : Int) (h1 : leC a a') (h2 : leC b b') : leC (metC a b r) (metC a' b' r) := by
  obtain ⟨ha, ma, na⟩ := a
  obtain ⟨ha', ma', na'⟩ := a'
  obtain ⟨hb, mb, nb⟩ := b
  obtain ⟨hb', mb', nb'⟩ := b'
  have key : ∀ (ha hb : Bool) (ma mb na nb : Int), (metC ⟨ha, ma, na⟩ ⟨hb, mb, nb⟩ r).has = (ha || hb) ∧ (hb = false → (metC ⟨ha, ma, na⟩ ⟨hb, mb, nb⟩ r).num = na) ∧ (hb = true → ha = false → (metC ⟨ha, ma, na⟩ ⟨hb, mb, nb⟩ r).num = nb) ∧ (hb = true → ha = true → (metC ⟨ha, ma, na⟩ ⟨hb, mb, nb⟩ r).num = max na nb) := by
    intro ha hb ma mb na nb
    unfold metC
    cases hb <;> cases ha <;> simp
    by_cases e : na < nb
    · simp [e]; omega
    · simp [e]
      by_cases e2 : na = nb
      · simp [e2]
      · simp [e2]; omega
  obtain ⟨k1, k2, k3, k4⟩ := key ha hb ma mb na nb
  obtain ⟨k1', k2', k3', k4'⟩ := key ha' hb' ma' mb' na' nb'
  unfold leC at *
  simp only at h1 h2
  rw [k1, k1']
  intro hh
  cases hb' with
  | false =>
    have h1' := h1 (by simpa using hh)
    rw [k2' rfl]
    cases hb with
    | false => rw [k2 rfl]; exact ⟨by simp [h1'.1], h1'.2⟩
    | true => rw [k4 rfl h1'.1]; exact ⟨by simp, by omega⟩
  | true =>
    have h2' := h2 rfl
    subst_vars
    obtain ⟨rfl, h2n⟩ := h2'
    cases ha' with
    | false =>
      rw [k3' rfl rfl]
      cases ha with
      | false => rw [k3 rfl rfl]; exact ⟨by simp, h2n⟩
      | true => rw [k4 rfl rfl]; exact ⟨by simp, by omega⟩
    | true =>
      obtain ⟨rfl, h1n⟩ := h1 rfl
      rw [k4' rfl rfl, k4 rfl rfl]
      exact ⟨by simp, by omega⟩
theorem le_ok : RelOk leC (fun _ _ => True) (fun a b => a = b) := by
  refine ⟨fun h => Bool.noConfusion h, fun k k' h => fun _ => ⟨rfl, (by show k' ≤ k; omega)⟩, fun a a' h => fun hh => h hh, fun _ _ _ => fun hh => Bool.noConfusion hh, met_leC, fun b b' h => ?_, fun a a' k h1 h2 h => ?_⟩
  · intro hh
    by_cases hb' : b'.has = true
    · rw [if_pos hb']
      have := h hb'
      rw [if_pos this.1]
      exact this
    · rw [if_neg hb'] at hh; cases hh
  · intro hh
    unfold addC at hh ⊢
    by_cases ha' : a'.has = true
    · have := h ha'
      rw [if_pos ha', if_pos this.1]
      exact ⟨this.1, by show wrap64 (a'.num + k) ≤ wrap64 (a.num + k); rw [wrap_in h1, wrap_in h2]; have := this.2; omega⟩
    · rw [if_neg ha'] at hh; exact absurd hh ha'
/-- Within a narrower band. -/
theorem narrow {c d : Cd} (hc : Gk c) (hd : Gk d) (ht : Two c d (fun a b => a = b)) (hm : d.most = c.most) (hlo : c.lo ≤ d.lo) (hhi : d.hi ≤ c.hi) (x y : List Int) (hx : (x.length : Int) ≤ c.most) (hy : (y.length : Int) ≤ c.most) :
    ∀ (n i j : Nat), i + j = n → i ≤ x.length → j ≤ y.length → ∀ p, p < c.planes.toNat → leC ((runM c x y).slots (placeB c.planes.toNat y.length p i j)) ((runM d x y).slots (placeB c.planes.toNat y.length p i j)) ∧ (inBd d i j = false → (runM d x y).slots (placeB c.planes.toNat y.length p i j) = ct0) := by
  obtain ⟨K, T, hlm⟩ := hc.lm
  obtain ⟨K', T', hlm'⟩ := hd.lm
  have h1 := run_loc hc hlm x y hx hy
  have h2 := run_loc hd hlm' x y (by omega) (by omega)
  have hPd : d.planes.toNat = c.planes.toNat := by rw [ht.planes]
  intro n
  induction n using Nat.strongRecOn with
  | _ n ih =>
    intro i j hn hi hj p hp
    by_cases hb : inBd d i j = true
    · have hbc : inBd c i j = true := by
        unfold inBd at hb ⊢
        simp only [Bool.and_eq_true, decide_eq_true_eq] at hb ⊢
        omega
      refine ⟨?_, fun h => by rw [hb] at h; cases h⟩
      obtain ⟨M0, a0⟩ := h1.2 i j ((cells_mem c _ _ _ _).2 ⟨by omega, by omega, hbc⟩)
      obtain ⟨M1, a1⟩ := h2.2 i j ((cells_mem d _ _ _ _).2 ⟨by omega, by omega, hb⟩)
      have hm1 := hlm.cell (n := (i : Int) + j) (by omega)
      have hm2 := hlm'.cell (n := (i : Int) + j) (by omega)
      have hcr := cell_rel le_ok hc hd ht hlm hlm' ⟨hm1.2, hm1.1⟩ ⟨hm2.2, hm2.1⟩ (x := x) (y := y) (x' := x) (y' := y) (i := i) (j := j) (by omega) (by omega) (by omega) (by omega) (fun _ => rfl) (fun _ => rfl) (M0 := M0) (M0' := M1)
        (back_rel le_ok.zero (by omega) (by omega) (by omega) (by omega) fun u v q hu hv huv hq hlx => by
          have e1 := a1.same u v q (by omega) (by rw [hPd]; exact hq) hlx
          rw [hPd] at e1
          rw [a0.same u v q (by omega) hq hlx, e1]
          exact (ih (u + v) (by omega) u v rfl (by omega) (by omega) q hq).1)
        (fun _ _ _ _ _ _ _ _ _ _ _ => trivial) a0.back a1.back a0.ends a1.ends trivial
      have hall : ((goP c (st0 0) 0 c.cell).2.pl p).1 = true := by
        have := hc.all
        unfold allK at this
        rw [List.all_eq_true] at this
        exact this p (List.mem_range.2 hp)
      have := hcr.pl p hp hall
      have e1 := a1.here p (by rw [hPd]; exact hp)
      rw [hPd] at e1
      rw [a0.here p hp, e1]
      exact this
    · have o2 := h2.1.off i j p (by omega) (by rw [hPd]; exact hp) (fun h => hb ((cells_mem d _ _ _ _).1 h).2.2)
      rw [hPd] at o2
      exact ⟨(by rw [o2]; exact fun h => Bool.noConfusion h), fun _ => o2⟩
end Go.Proofs.Ytjpeoejielamiaa
