/-
  All constants of starts greater by one number.
-/
import Derived.Test.YtjpeoejielamiaaMpG
namespace Go.Proofs.Ytjpeoejielamiaa
open Go.RowKit

def shC (by' : Int) (a a' : Ct) : Prop := a'.has = a.has ∧ a'.mask = a.mask ∧ (a.has = true → a'.num = a.num + by')
def shE (by' : Int) (e e' : En) : Prop := e'.found = e.found ∧ e'.i = e.i ∧ e'.j = e.j ∧ e'.planes = e.planes ∧ (e.found = true → e'.score = e.score + by')
theorem sh_ok (z : Int) : RelOk (shC z) (shE z) (fun k k' => k' = k + z) := by
  refine ⟨⟨rfl, rfl, fun h => Bool.noConfusion h⟩, fun k k' h => ⟨rfl, rfl, fun _ => h⟩, fun a a' h => ⟨h.1, rfl, h.2.2⟩, fun a a' h => ⟨rfl, h.2.1, fun h => Bool.noConfusion h⟩, ?_, ?_, ?_⟩
  · rintro ⟨ha, ma, na⟩ ⟨ha', ma', na'⟩ ⟨hb, mb, nb⟩ ⟨hb', mb', nb'⟩ r ⟨h1, h2, h3⟩ ⟨g1, g2, g3⟩
    simp only at h1 h2 h3 g1 g2 g3
    subst h1 h2 g1 g2
    unfold metC
    cases hb' with
    | false => simp; exact ⟨rfl, rfl, h3⟩
    | true =>
      have := g3 rfl
      subst this
      cases ha' with
      | false => simp; exact ⟨rfl, rfl, fun _ => rfl⟩
      | true =>
        have := h3 rfl
        subst this
        by_cases e1 : na < nb
        · have e2 : na + z < nb + z := by omega
          simp [e1, e2]; exact ⟨rfl, rfl, fun _ => rfl⟩
        · have e2 : ¬ na + z < nb + z := by omega
          by_cases e3 : na = nb
          · have e4 : na + z = nb + z := by omega
            simp [e3]; exact ⟨rfl, rfl, fun _ => rfl⟩
          · have e4 : ¬ na + z = nb + z := by omega
            simp [e1, e3]; exact ⟨rfl, rfl, fun _ => rfl⟩
  · intro b b' h
    by_cases hb : b.has = true
    · rw [if_pos hb, if_pos (h.1.trans hb)]; exact h
    · rw [if_neg hb, if_neg (by rw [h.1]; exact hb)]; exact ⟨rfl, rfl, fun h => Bool.noConfusion h⟩
  · intro a a' k h1 h2 h
    unfold addC
    by_cases ha : a.has = true
    · rw [if_pos ha, if_pos (h.1.trans ha), wrap_in h1, wrap_in h2]
      exact ⟨h.1, h.2.1, fun _ => by have := h.2.2 ha; show a'.num + k = a.num + k + z; omega⟩
    · rw [if_neg ha, if_neg (by rw [h.1]; exact ha)]; exact h
theorem sh_end (z : Int) (e e' : En) (v v' : Ct) (m : Bool) (p : Nat) (i j k : Int) (hv : shC z v v') (h1 : bnd B62 (v.num + k)) (h2 : bnd B62 (v'.num + k)) (he : shE z e e') : shE z (endC e v m p i j k) (endC e' v' m p i j k) := by
  unfold endC
  rw [hv.1]
  by_cases hm : (v.has && m) = true
  · rw [if_pos hm, if_pos hm, wrap_in h1, wrap_in h2]
    have hvh : v.has = true := by simp at hm; exact hm.1
    have hn := hv.2.2 hvh
    rw [show v'.num + k = (v.num + k) + z by omega]
    generalize v.num + k = n
    obtain ⟨f, s, ei, ej, pl⟩ := e
    obtain ⟨f', s', ei', ej', pl'⟩ := e'
    obtain ⟨q1, q2, q3, q4, q5⟩ := he
    simp only at q1 q2 q3 q4 q5
    subst q1 q2 q3 q4
    unfold endB
    cases f' with
    | false => simp; exact ⟨rfl, rfl, rfl, rfl, fun _ => rfl⟩
    | true =>
      have := q5 rfl
      subst this
      by_cases e1 : s < n
      · have e2 : s + z < n + z := by omega
        simp [e1, e2]; exact ⟨rfl, rfl, rfl, rfl, fun _ => rfl⟩
      · have e2 : ¬ s + z < n + z := by omega
        by_cases e3 : s = n ∧ ei' = i ∧ ej' = j
        · have e4 : s + z = n + z ∧ ei' = i ∧ ej' = j := ⟨by omega, e3.2⟩
          simp [e3]; exact ⟨rfl, rfl, rfl, rfl, fun _ => rfl⟩
        · have e4 : ¬ (s + z = n + z ∧ ei' = i ∧ ej' = j) := fun h => e3 ⟨by omega, h.2⟩
          simp only [e1, e2, decide_false, Bool.not_true, Bool.or_self, Bool.false_eq_true, if_false, if_neg e3, if_neg e4]
          exact ⟨rfl, rfl, rfl, rfl, fun _ => rfl⟩
  · rw [if_neg hm, if_neg hm]; exact he
theorem fold_pair {α β γ : Type} (f : α → γ → α) (g : β → γ → β) : ∀ (l : List γ) (a : α) (b : β), l.foldl (fun (p : α × β) z => (f p.1 z, g p.2 z)) (a, b) = (l.foldl f a, l.foldl g b)
  | [], _, _ => rfl
  | z :: l, a, b => by rw [List.foldl_cons, fold_pair f g l]; rfl
/-- With all starts greater by z, each number is greater by that, and so are the ends. -/
theorem shift {c d : Cd} (hc : Gk c) (hd : Gk d) {z : Int} (ht : Two c d (fun k k' => k' = k + z)) (hm : d.most = c.most) (hlo : d.lo = c.lo) (hhi : d.hi = c.hi) (x y : List Int) (hx : (x.length : Int) ≤ c.most) (hy : (y.length : Int) ≤ c.most) : shE z (runM c x y).ends (runM d x y).ends := by
  obtain ⟨K, T, hlm⟩ := hc.lm
  obtain ⟨K', T', hlm'⟩ := hd.lm
  have hPd : d.planes.toNat = c.planes.toNat := by rw [ht.planes]
  have hbd : ∀ i j, inBd d i j = inBd c i j := fun i j => by unfold inBd; rw [hlo, hhi]
  have hcells : cellsL d x.length y.length = cellsL c x.length y.length := by
    unfold cellsL
    congr 1
    funext i
    congr 1
    congr 1
    funext j
    exact hbd i j
  rw [runM_cells, runM_cells, hcells]
  have key := cells_ind c x.length y.length (fun (p : Ms × Ms) z => (cellM c x y z.1 z.2 p.1, cellM d x y z.1 z.2 p.2)) (ms0, ms0)
    (fun pre p => RunB c K T x.length y.length pre p.1 ∧ RunB d K' T' x.length y.length pre p.2 ∧ (∀ u v q : Nat, v ≤ y.length → q < c.planes.toNat → shC z (p.1.slots (placeB c.planes.toNat y.length q u v)) (p.2.slots (placeB c.planes.toNat y.length q u v))) ∧ shE z p.1.ends p.2.ends)
    ⟨⟨fun u v p _ _ => bnd_zero (Int.mul_nonneg (by omega) hlm.d0), fun _ _ _ _ _ _ => rfl, bnd_zero (by decide)⟩, ⟨fun u v p _ _ => bnd_zero (Int.mul_nonneg (by omega) hlm'.d0), fun _ _ _ _ _ _ => rfl, bnd_zero (by decide)⟩, fun _ _ _ _ _ => ⟨rfl, rfl, fun h => Bool.noConfusion h⟩, ⟨rfl, rfl, rfl, rfl, fun h => Bool.noConfusion h⟩⟩
    (by
      rintro pre i j ⟨M, M'⟩ hi hj hb _ ⟨r1, r2, r3, r4⟩
      simp only at r1 r2 r3 r4
      have hm1 := hlm.cell (n := (i : Int) + j) (by omega)
      have hm2 := hlm'.cell (n := (i : Int) + j) (by omega)
      have hcr := cell_rel (sh_ok z) hc hd ht hlm hlm' ⟨hm1.2, hm1.1⟩ ⟨hm2.2, hm2.1⟩ (x := x) (y := y) (x' := x) (y' := y) hi hj hi hj (fun _ => rfl) (fun _ => rfl) (M0 := M) (M0' := M')
        (back_rel (sh_ok z).zero hi hj hi hj fun u v q hu hv _ hq _ => r3 u v q (by omega) hq)
        (fun e e' v v' wh p k g1 g2 g3 g4 => sh_end z e e' v v' _ p i j k g1 g2 g3 g4) (run_back hlm r1.slots) (run_back hlm' r2.slots) r1.ends r2.ends r4
      refine ⟨runB_step hc hlm x y hx hy hi hj r1, runB_step hd hlm' x y (by omega) (by omega) hi hj r2, fun u v q hv hq => ?_, hcr.ends⟩
      show shC z ((cellM c x y i j M).slots _) ((cellM d x y i j M').slots _)
      by_cases he : u = i ∧ v = j
      · obtain ⟨rfl, rfl⟩ := he
        have hall : ((goP c (st0 0) 0 c.cell).2.pl q).1 = true := by
          have := hc.all
          unfold allK at this
          rw [List.all_eq_true] at this
          exact this q (List.mem_range.2 hq)
        exact hcr.pl q hq hall
      · have hne : ∀ p', p' < c.planes.toNat → placeB c.planes.toNat y.length q u v ≠ placeB c.planes.toNat y.length p' i j := fun p' hp' e => he (place_inj hq hp' hv hj e).2
        rw [cell_frame hc x y i j M _ hne, cell_frame hd x y i j M' _ (by rw [hPd]; exact hne)]
        exact r3 u v q hv hq)
  have hf : (cellsL c x.length y.length).foldl (fun (p : Ms × Ms) z => (cellM c x y z.1 z.2 p.1, cellM d x y z.1 z.2 p.2)) (ms0, ms0) = ((cellsL c x.length y.length).foldl (fun M p => cellM c x y p.1 p.2 M) ms0, (cellsL c x.length y.length).foldl (fun M p => cellM d x y p.1 p.2 M) ms0) := fold_pair (fun M (p : Nat × Nat) => cellM c x y p.1 p.2 M) (fun M (p : Nat × Nat) => cellM d x y p.1 p.2 M) _ _ _
  rw [hf] at key
  exact key.2.2.2
end Go.Proofs.Ytjpeoejielamiaa
