/-
  Registers with other numbers, arrows in another order: what is told of a code stays, plain.
-/
import Derived.Test.YtdbfcclmmpcijaaVlP
namespace Go.Proofs.Ytdbfcclmmpcijaa
open Go.RowKit

def sgN (k R r : Nat) : Nat := if r < R then (r + k) % R else r
theorem sg_lt {k R r : Nat} (h : r < R) : sgN k R r < R := by unfold sgN; rw [if_pos h]; exact Nat.mod_lt _ (by omega)
theorem sg_iff (k R r : Nat) : sgN k R r < R ↔ r < R := by
  constructor
  · intro h; unfold sgN at h; split at h
    · assumption
    · exact h
  · exact sg_lt
theorem mod_two (a R : Nat) (h : a < R + R) : a % R = if a < R then a else a - R := by
  split
  · exact Nat.mod_eq_of_lt ‹_›
  · rw [Nat.mod_eq_sub_mod (by omega), Nat.mod_eq_of_lt (by omega)]
theorem sg_inj {k R r t : Nat} (hk : k < R) (hr : r < R) (ht : t < R) (h : sgN k R r = sgN k R t) : r = t := by
  unfold sgN at h
  rw [if_pos hr, if_pos ht, mod_two _ _ (by omega), mod_two _ _ (by omega)] at h
  split at h <;> split at h <;> omega
/-- An instruction with its registers' other numbers. -/
def tnQ (k R : Nat) (q : Qd) : Qd := (q.1, (if q.1 = 7 ∨ q.1 = 8 then q.2.1 else ((sgN k R q.2.1.toNat : Nat) : Int)), (if q.1 = 6 ∨ q.1 = 7 then ((sgN k R q.2.2.1.toNat : Nat) : Int) else q.2.2.1), q.2.2.2)
def tnC (k R : Nat) (c : Cd) : Cd := ⟨c.letters, c.planes, c.regs, c.lo, c.hi, c.most, c.table, c.consts, c.cell.map (tnQ k R), c.arrows.reverse⟩
structure Rn (k R : Nat) (S S' : St) : Prop where
  regs : ∀ r, r < R → S'.regs (sgN k R r) = S.regs r
  pl : S'.pl = S.pl
  top : S'.top = S.top
theorem Rn.setR {k R : Nat} {S S' : St} (h : Rn k R S S') (hk : k < R) {a : Nat} (ha : a < R) (x : Rg) : Rn k R (setR S a x) (setR S' (sgN k R a) x) := by
  refine ⟨fun r hr => ?_, h.pl, h.top⟩
  show updR S'.regs (sgN k R a) x (sgN k R r) = updR S.regs a x r
  by_cases e : r = a
  · subst e; rw [updR_same, updR_same]
  · rw [updR_ne _ _ e, updR_ne _ _ (fun h' => e (sg_inj hk hr ha h'))]; exact h.regs r hr
theorem Rn.weigh {k R : Nat} {S S' : St} (h : Rn k R S S') (n : Int) : Rn k R (weighP S n) (weighP S' n) := ⟨h.regs, h.pl, by show max S'.top n = max S.top n; rw [h.top]⟩
theorem Rn.setP {k R : Nat} {S S' : St} (h : Rn k R S S') (a : Nat) (x : Bool × Int) : Rn k R (setP S a x) (setP S' a x) := ⟨h.regs, by show updP S'.pl a x = updP S.pl a x; rw [h.pl], h.top⟩
section
variable {k R : Nat} {c : Cd} {S S' : St}
theorem tn_nam (hR : c.regs = R) {o : Int} {x y z : Nat} (ho : 1 ≤ o ∧ o ≤ 8) : namB (tnC k R c) (tnQ k R (o, (x : Int), (y : Int), (z : Int))) = namB c (o, (x : Int), (y : Int), (z : Int)) := by
  have e1 : decide (((sgN k R x : Nat) : Int) < (R : Int)) = decide ((x : Int) < (R : Int)) := by
    have := sg_iff k R x
    rw [Bool.eq_iff_iff]; simp only [decide_eq_true_eq]; omega
  have e2 : decide (((sgN k R y : Nat) : Int) < (R : Int)) = decide ((y : Int) < (R : Int)) := by
    have := sg_iff k R y
    rw [Bool.eq_iff_iff]; simp only [decide_eq_true_eq]; omega
  have : o = 1 ∨ o = 2 ∨ o = 3 ∨ o = 4 ∨ o = 5 ∨ o = 6 ∨ o = 7 ∨ o = 8 := by omega
  rcases this with rfl | rfl | rfl | rfl | rfl | rfl | rfl | rfl
  · show (decide (((sgN k R x : Nat) : Int) < c.regs) && _ && _) = (decide ((x : Int) < c.regs) && _ && _); rw [hR, e1]; rfl
  · show (decide (((sgN k R x : Nat) : Int) < c.regs) && _ && _) = (decide ((x : Int) < c.regs) && _ && _); rw [hR, e1]; rfl
  · show (decide (((sgN k R x : Nat) : Int) < c.regs) && _ && _) = (decide ((x : Int) < c.regs) && _ && _); rw [hR, e1]; rfl
  · show (decide (((sgN k R x : Nat) : Int) < c.regs) && _ && _) = (decide ((x : Int) < c.regs) && _ && _); rw [hR, e1]; rfl
  · show (decide (((sgN k R x : Nat) : Int) < c.regs) && _ && _) = (decide ((x : Int) < c.regs) && _ && _); rw [hR, e1]; rfl
  · show (decide (((sgN k R x : Nat) : Int) < c.regs) && decide (((sgN k R y : Nat) : Int) < c.regs) && _) = (decide ((x : Int) < c.regs) && decide ((y : Int) < c.regs) && _); rw [hR, e1, e2]; rfl
  · show (_ && decide (((sgN k R y : Nat) : Int) < c.regs) && _) = (_ && decide ((y : Int) < c.regs) && _); rw [hR, e2]; rfl
  · rfl
theorem tn_nm (hR : c.regs = R) {o : Int} {x y z : Nat} (ho : 1 ≤ o ∧ o ≤ 8) (h : namB c (o, (x : Int), (y : Int), (z : Int)) = true) : (o ≤ 6 → x < R) ∧ (o = 6 ∨ o = 7 → y < R) := by
  simp only [namB, Bool.and_eq_true, decide_eq_true_eq] at h
  have : o = 1 ∨ o = 2 ∨ o = 3 ∨ o = 4 ∨ o = 5 ∨ o = 6 ∨ o = 7 ∨ o = 8 := by omega
  rcases this with rfl | rfl | rfl | rfl | rfl | rfl | rfl | rfl <;> (simp [limB] at h; refine ⟨fun _ => ?_, fun hh => ?_⟩ <;> first | omega | (rcases hh with hh | hh <;> exact absurd hh (by decide)))
theorem tn_rd (hs : Rn k R S S') {o : Int} {x y z : Nat} (ho : 1 ≤ o ∧ o ≤ 8) (hx : o ≤ 6 → x < R) (hy : o = 6 ∨ o = 7 → y < R) : rdB S' (tnQ k R (o, (x : Int), (y : Int), (z : Int))) = rdB S (o, (x : Int), (y : Int), (z : Int)) := by
  have : o = 1 ∨ o = 2 ∨ o = 3 ∨ o = 4 ∨ o = 5 ∨ o = 6 ∨ o = 7 ∨ o = 8 := by omega
  rcases this with rfl | rfl | rfl | rfl | rfl | rfl | rfl | rfl
  · simp [rdB, tnQ]
  · simp [rdB, tnQ]
  · simp [rdB, tnQ, hs.pl]
  · simp [rdB, tnQ, hs.regs x (hx (by decide))]
  · simp [rdB, tnQ, hs.regs x (hx (by decide))]
  · simp [rdB, tnQ, hs.regs x (hx (by decide)), hs.regs y (hy (by decide))]
  · simp [rdB, tnQ, hs.regs y (hy (by decide))]
  · simp [rdB, tnQ, hs.pl]
theorem tn_tw (hs : Rn k R S S') {o : Int} {x y z : Nat} : twB S' (tnQ k R (o, (x : Int), (y : Int), (z : Int))) = twB S (o, (x : Int), (y : Int), (z : Int)) := by
  by_cases h7 : o = 7
  · subst h7; simp [twB, tnQ, hs.pl]
  · have e : (o == 7) = false := by simp [h7]
    show ((o == 7) && _) = ((o == 7) && _)
    rw [e]; rfl
theorem com_rev (r : Rg) (p : Int) (l : List Qd) : comB r p l.reverse = comB r p l := by
  unfold comB
  congr 2
  funext x
  rw [Bool.eq_iff_iff, List.any_eq_true, List.any_eq_true]
  constructor
  · rintro ⟨a, ha, h⟩; exact ⟨a, List.mem_reverse.1 ha, h⟩
  · rintro ⟨a, ha, h⟩; exact ⟨a, List.mem_reverse.2 ha, h⟩
theorem tn_gd (hs : Rn k R S S') {o : Int} {x y z : Nat} (hy : o = 6 ∨ o = 7 → y < R) : gdB (tnC k R c) S' (tnQ k R (o, (x : Int), (y : Int), (z : Int))) = gdB c S (o, (x : Int), (y : Int), (z : Int)) := by
  by_cases h7 : o = 7
  · subst h7
    have e := hs.regs y (hy (by decide))
    simp only [gdB, tnQ, tnC, if_true, true_or, or_true, Int.toNat_natCast, e, com_rev]
  · simp [gdB, tnQ, h7]
theorem tn_err (hR : c.regs = R) (hs : Rn k R S S') {o : Int} {x y z : Nat} (ho : 1 ≤ o ∧ o ≤ 8) : errB (tnC k R c) S' (tnQ k R (o, (x : Int), (y : Int), (z : Int))) = errB c S (o, (x : Int), (y : Int), (z : Int)) := by
  unfold errB
  rw [tn_nam hR ho]
  by_cases hn : namB c (o, (x : Int), (y : Int), (z : Int)) = true
  · have ⟨hx, hy⟩ := tn_nm hR ho hn
    rw [tn_rd hs ho hx hy, tn_tw hs, tn_gd hs hy]
  · have hn' : namB c (o, (x : Int), (y : Int), (z : Int)) = false := by simpa using hn
    rw [if_pos hn', if_pos hn']
theorem tn_past (hs : Rn k R S S') (hk : k < R) {o : Int} {x y z : Nat} (ho : 1 ≤ o ∧ o ≤ 8) (hx : o ≤ 6 → x < R) (hy : o = 6 ∨ o = 7 → y < R) : Rn k R (pastP S (o, (x : Int), (y : Int), (z : Int))) (pastP S' (tnQ k R (o, (x : Int), (y : Int), (z : Int)))) := by
  have : o = 1 ∨ o = 2 ∨ o = 3 ∨ o = 4 ∨ o = 5 ∨ o = 6 ∨ o = 7 ∨ o = 8 := by omega
  rcases this with rfl | rfl | rfl | rfl | rfl | rfl | rfl | rfl
  · simp only [pastP, tnQ, Int.toNat_natCast]; simp; exact (hs.setR hk (hx (by decide)) _).weigh _
  · simp only [pastP, tnQ, Int.toNat_natCast]; simp; exact (hs.setR hk (hx (by decide)) _).weigh _
  · have e : loadB S' (y : Int) (z : Int) = loadB S (y : Int) (z : Int) := by unfold loadB; rw [hs.pl]
    simp only [pastP, tnQ, Int.toNat_natCast]; simp; rw [e]; exact (hs.setR hk (hx (by decide)) _).weigh _
  · simp only [pastP, tnQ, Int.toNat_natCast]; simp; rw [hs.regs x (hx (by decide))]; exact (hs.setR hk (hx (by decide)) _).weigh _
  · simp only [pastP, tnQ, Int.toNat_natCast]; simp; rw [hs.regs x (hx (by decide))]; exact (hs.setR hk (hx (by decide)) _).weigh _
  · simp only [pastP, tnQ, Int.toNat_natCast]; simp; rw [hs.regs x (hx (by decide)), hs.regs y (hy (by decide))]; exact hs.setR hk (hx (by decide)) _
  · simp only [pastP, tnQ, Int.toNat_natCast]; simp; rw [hs.regs y (hy (by decide))]; exact hs.setP _ _
  · simp only [pastP, tnQ, Int.toNat_natCast]; simp; rw [hs.pl]; exact hs.weigh _
theorem tn_go (hR : c.regs = R) (hk : k < R) : ∀ (l : List Qd), (∀ q ∈ l, (1 ≤ q.1 ∧ q.1 ≤ 8) ∧ 0 ≤ q.2.1 ∧ 0 ≤ q.2.2.1 ∧ 0 ≤ q.2.2.2) → ∀ (S S' : St) (i : Nat), Rn k R S S' → (goP (tnC k R c) S' i (l.map (tnQ k R))).1 = (goP c S i l).1 ∧ Rn k R (goP c S i l).2 (goP (tnC k R c) S' i (l.map (tnQ k R))).2
  | [], _, S, S', i, hs => ⟨rfl, hs⟩
  | q :: l, hq, S, S', i, hs => by
    obtain ⟨o, x, y, z⟩ := q
    have h0 := hq _ List.mem_cons_self
    simp only at h0
    obtain ⟨x, rfl⟩ : ∃ n : Nat, x = n := ⟨x.toNat, by omega⟩
    obtain ⟨y, rfl⟩ : ∃ n : Nat, y = n := ⟨y.toNat, by omega⟩
    obtain ⟨z, rfl⟩ : ∃ n : Nat, z = n := ⟨z.toNat, by omega⟩
    rw [List.map_cons, goP, goP, tn_err hR hs h0.1]
    by_cases he : errB c S (o, (x : Int), (y : Int), (z : Int)) = 0
    · rw [if_pos he, if_pos he]
      have hn : namB c (o, (x : Int), (y : Int), (z : Int)) = true := by
        cases h : namB c (o, (x : Int), (y : Int), (z : Int)) with
        | true => rfl
        | false => rw [errB, if_pos h] at he; exact absurd he (by decide)
      have ⟨hx, hy⟩ := tn_nm hR h0.1 hn
      exact tn_go hR hk l (fun q hq' => hq q (List.mem_cons_of_mem _ hq')) _ _ _ (tn_past hs hk h0.1 hx hy)
    · rw [if_neg he, if_neg he]
      exact ⟨rfl, hs⟩
end
/-- Whether arrows may be does not hang on their order. -/
def keyB (a b : Qd) : Bool := a.1 == b.1 && a.2.1 == b.2.1
theorem key_symm (a b : Qd) : keyB a b = keyB b a := by
  unfold keyB; rw [Bool.eq_iff_iff]; simp only [Bool.and_eq_true, beq_iff_eq]
  exact ⟨fun h => ⟨h.1.symm, h.2.symm⟩, fun h => ⟨h.1.symm, h.2.symm⟩⟩
theorem ar_iff (pl : Int) : ∀ (l d : List Qd), arGo pl d l = true ↔ (∀ a ∈ l, arwB pl a = true) ∧ (∀ a ∈ l, ∀ b ∈ d, keyB b a = false) ∧ l.Pairwise (fun a b => keyB a b = false)
  | [], d => by simp [arGo]
  | a :: l, d => by
    have hs : seenB d a.1 a.2.1 = d.any fun b => keyB b a := rfl
    rw [arGo, Bool.and_eq_true, Bool.and_eq_true, Bool.not_eq_true', hs, ar_iff pl l (d ++ [a]), List.any_eq_false, List.pairwise_cons]
    simp only [List.mem_cons, forall_eq_or_imp, List.mem_append, List.not_mem_nil, or_false]
    constructor
    · rintro ⟨⟨h1, h2⟩, h3, h4, h5⟩
      exact ⟨⟨h1, h3⟩, ⟨fun b hb => by simpa using h2 b hb, fun x hx b hb => h4 x hx b (.inl hb)⟩, fun x hx => h4 x hx a (.inr rfl), h5⟩
    · rintro ⟨⟨h1, h3⟩, ⟨h2, h4⟩, h6, h5⟩
      exact ⟨⟨h1, fun b hb => by rw [h2 b hb]; decide⟩, h3, fun x hx b hb => by
        rcases hb with hb | rfl
        · exact h4 x hx b hb
        · exact h6 x hx, h5⟩
theorem ars_rev (pl : Int) (l : List Qd) : arGo pl [] l.reverse = arGo pl [] l := by
  rw [Bool.eq_iff_iff, ar_iff, ar_iff]
  simp only [List.mem_reverse, List.pairwise_reverse, List.not_mem_nil, false_implies, implies_true]
  have : (l.Pairwise fun a b => keyB b a = false) ↔ l.Pairwise fun a b => keyB a b = false := by
    constructor <;> exact fun h => h.imp fun {a b} hab => by rw [key_symm]; exact hab
  rw [this]
theorem tn_right {k : Nat} {c : Cd} {R : Nat} (hR : c.regs = R) (h : rightB c = true) : rightB (tnC k R c) = true := by
  have hr := rt_of h
  have h3 : cellB (c.cell.map (tnQ k R)) = true := by
    simp only [cellB, Bool.and_eq_true, decide_eq_true_eq, List.all_eq_true, List.length_map, List.mem_map, allB, List.mem_cons, List.not_mem_nil, or_false, inB_iff]
    refine ⟨hr.clen, ?_⟩
    rintro q ⟨p, hp, rfl⟩
    have hq := hr.cell p hp
    have hg := hr.regs
    have key : ∀ n : Int, 0 ≤ n ∧ n ≤ 65535 → 0 ≤ ((sgN k R n.toNat : Nat) : Int) ∧ ((sgN k R n.toNat : Nat) : Int) ≤ 65535 := fun n hn => by
      refine ⟨by omega, ?_⟩
      by_cases e : n.toNat < R
      · have := sg_lt (k := k) e; omega
      · unfold sgN; rw [if_neg e]; omega
    refine ⟨hq.1, fun n hn => ?_⟩
    rcases hn with rfl | rfl | rfl
    · simp only [tnQ]; split
      · exact hq.2.1
      · exact key _ hq.2.1
    · simp only [tnQ]; split
      · exact key _ hq.2.2.1
      · exact hq.2.2.1
    · exact hq.2.2.2
  have h4 : arrowsB c.arrows.reverse = true := by
    simp only [rightB, Bool.and_eq_true] at h
    have := h.2
    simp only [arrowsB, Bool.and_eq_true, decide_eq_true_eq, List.all_eq_true, List.length_reverse, List.mem_reverse] at this ⊢
    exact this
  simp only [rightB, Bool.and_eq_true] at h ⊢
  exact ⟨⟨h.1.1, h3⟩, h4⟩
/-- What is told stays. -/
theorem tn_chk {k R : Nat} {c : Cd} (hR : c.regs = R) (hk : k < R) (h : rightB c = true) : chkB (tnC k R c) = chkB c := by
  have hr := rt_of h
  obtain ⟨g1, g2⟩ := tn_go hR hk c.cell (fun q hq => ⟨(hr.cell q hq).1, (hr.cell q hq).2.1.1, (hr.cell q hq).2.2.1.1, (hr.cell q hq).2.2.2.1⟩) (st0 0) (st0 0) 0 ⟨fun _ _ => rfl, rfl, rfl⟩
  have ha : arsB (tnC k R c) = arsB c := ars_rev c.planes c.arrows
  have hK : allK (goP (tnC k R c) (st0 0) 0 (tnC k R c).cell).2 (tnC k R c).planes.toNat = allK (goP c (st0 0) 0 c.cell).2 c.planes.toNat := by
    show allK (goP (tnC k R c) (st0 0) 0 (c.cell.map (tnQ k R))).2 c.planes.toNat = _
    unfold allK; rw [g2.pl]
  have hW : widB (tnC k R c) (goP (tnC k R c) (st0 0) 0 (tnC k R c).cell).2.top = widB c (goP c (st0 0) 0 c.cell).2.top := by
    show widB (tnC k R c) (goP (tnC k R c) (st0 0) 0 (c.cell.map (tnQ k R))).2.top = _
    rw [g2.top]; rfl
  have hg : (goP (tnC k R c) (st0 0) 0 (tnC k R c).cell).1 = (goP c (st0 0) 0 c.cell).1 := g1
  unfold chkB
  rw [tn_right hR h, h, ha, hg, hK, hW]
end Go.Proofs.Ytdbfcclmmpcijaa
