/-
  The walk back, plain: of all ways from here the least step, and the planes whence they come. The walk back, plain: from planes that have a number there is a way back, and what it comes from has a number. The walk back, plain: it goes on until plane 0, and ends there.
-/
import Derived.Test.YtnkfibahkmmnpaaGreatKc
namespace Go.Proofs.YtnkfibahkmmnpaaGreat
open Go.RowKit

/-- Is an arrow a way from here? -/
def openB (m : Int → Nat) (s : Nat → Bool) (a : Qd) : Bool := s a.1.toNat && (m a.1).testBit a.2.1.toNat
def putP (s : Nat → Bool) (p : Nat) : Nat → Bool := fun q => if q = p then true else s q
def leastS (m : Int → Nat) (s : Nat → Bool) (r : Int × (Nat → Bool)) (a : Qd) : Int × (Nat → Bool) :=
  if r.1 < a.2.2.2 ∨ openB m s a = false then r
  else if a.2.2.2 < r.1 then (a.2.2.2, putP (fun _ => false) a.2.2.1.toNat) else (r.1, putP r.2 a.2.2.1.toNat)
def leastB (m : Int → Nat) (s : Nat → Bool) (l : List Qd) : Int × (Nat → Bool) := l.foldl (leastS m s) (3, fun _ => false)
structure LeastOk (m : Int → Nat) (s : Nat → Bool) (l : List Qd) (r : Int × (Nat → Bool)) : Prop where
  top : r.1 ≤ 3
  low : ∀ a ∈ l, openB m s a = true → r.1 ≤ a.2.2.2
  from' : ∀ p, r.2 p = true → ∃ a ∈ l, openB m s a = true ∧ a.2.2.2 = r.1 ∧ a.2.2.1.toNat = p
  all : ∀ a ∈ l, openB m s a = true → a.2.2.2 = r.1 → r.2 a.2.2.1.toNat = true
theorem leastS_ok {m : Int → Nat} {s : Nat → Bool} {l : List Qd} {r : Int × (Nat → Bool)} (h : LeastOk m s l r) (a : Qd) : LeastOk m s (l ++ [a]) (leastS m s r a) := by
  have mem : ∀ {x : Qd}, x ∈ l ++ [a] → x ∈ l ∨ x = a := fun hx => by simpa using hx
  unfold leastS
  by_cases h1 : r.1 < a.2.2.2 ∨ openB m s a = false
  · rw [if_pos h1]
    refine ⟨h.top, fun x hx ho => ?_, fun p hp => ?_, fun x hx ho he => ?_⟩
    · rcases mem hx with hm | rfl
      · exact h.low x hm ho
      · rcases h1 with h2 | h2
        · omega
        · rw [h2] at ho; cases ho
    · obtain ⟨x, hx, h2⟩ := h.from' p hp
      exact ⟨x, by simp [hx], h2⟩
    · rcases mem hx with hm | rfl
      · exact h.all x hm ho he
      · rcases h1 with h2 | h2
        · omega
        · rw [h2] at ho; cases ho
  · rw [if_neg h1]
    have h2 : ¬ r.1 < a.2.2.2 := fun e => h1 (Or.inl e)
    have h3 : openB m s a = true := by
      cases e : openB m s a with
      | true => rfl
      | false => exact absurd (Or.inr e) h1
    by_cases h4 : a.2.2.2 < r.1
    · rw [if_pos h4]
      refine ⟨by have := h.top; show a.2.2.2 ≤ 3; omega, fun x hx ho => ?_, fun p hp => ?_, fun x hx ho he => ?_⟩
      · rcases mem hx with hm | rfl
        · have := h.low x hm ho; show a.2.2.2 ≤ _; omega
        · exact Int.le_refl _
      · have hp' : putP (fun _ => false) a.2.2.1.toNat p = true := hp
        unfold putP at hp'
        by_cases e : p = a.2.2.1.toNat
        · exact ⟨a, by simp, h3, rfl, e.symm⟩
        · rw [if_neg e] at hp'; cases hp'
      · rcases mem hx with hm | rfl
        · have := h.low x hm ho; have he' : x.2.2.2 = a.2.2.2 := he; omega
        · show putP (fun _ => false) x.2.2.1.toNat x.2.2.1.toNat = true; unfold putP; rw [if_pos rfl]
    · rw [if_neg h4]
      refine ⟨h.top, fun x hx ho => ?_, fun p hp => ?_, fun x hx ho he => ?_⟩
      · rcases mem hx with hm | rfl
        · exact h.low x hm ho
        · show r.1 ≤ _; omega
      · have hp' : putP r.2 a.2.2.1.toNat p = true := hp
        unfold putP at hp'
        by_cases e : p = a.2.2.1.toNat
        · exact ⟨a, by simp, h3, by show _ = r.1; omega, e.symm⟩
        · rw [if_neg e] at hp'
          obtain ⟨x, hx, h5⟩ := h.from' p hp'
          exact ⟨x, by simp [hx], h5⟩
      · show putP _ _ _ = true
        unfold putP
        by_cases e : x.2.2.1.toNat = a.2.2.1.toNat
        · rw [if_pos e]
        · rw [if_neg e]
          rcases mem hx with hm | rfl
          · exact h.all x hm ho he
          · exact absurd rfl e
theorem leastB_ok (m : Int → Nat) (s : Nat → Bool) (l : List Qd) : LeastOk m s l (leastB m s l) := by
  have key : ∀ (l pre : List Qd) (r : Int × (Nat → Bool)), LeastOk m s pre r → LeastOk m s (pre ++ l) (l.foldl (leastS m s) r) := by
    intro l
    induction l with
    | nil => intro pre r h; simpa using h
    | cons a l ih =>
      intro pre r h
      have := ih (pre ++ [a]) _ (leastS_ok h a)
      rw [List.append_assoc] at this
      exact this
  exact key l [] (3, fun _ => false) ⟨Int.le_refl _, fun _ h => (by cases h), fun _ h => Bool.noConfusion h, fun _ h => (by cases h)⟩
/-- Where one arrow at least is a way, there is a plane to come to. -/
theorem leastB_some {m : Int → Nat} {s : Nat → Bool} {l : List Qd} (h3 : ∀ a ∈ l, a.2.2.2 ≤ 3) {a : Qd} (ha : a ∈ l) (ho : openB m s a = true) : ∃ b ∈ l, openB m s b = true ∧ b.2.2.2 = (leastB m s l).1 ∧ (leastB m s l).2 b.2.2.1.toNat = true := by
  have h := leastB_ok m s l
  by_cases hx : ∃ b ∈ l, openB m s b = true ∧ b.2.2.2 = (leastB m s l).1
  · obtain ⟨b, hb, h1, h2⟩ := hx
    exact ⟨b, hb, h1, h2, h.all b hb h1 h2⟩
  · exfalso
    have keep : ∀ (l : List Qd) (r : Int × (Nat → Bool)), (l.foldl (leastS m s) r).1 = r.1 ∨ ∃ b ∈ l, openB m s b = true ∧ b.2.2.2 = (l.foldl (leastS m s) r).1 := by
      intro l
      induction l with
      | nil => intro r; exact Or.inl rfl
      | cons x l ih =>
        intro r
        rw [List.foldl_cons]
        rcases ih (leastS m s r x) with e | ⟨b, hb, h1, h2⟩
        · by_cases e1 : r.1 < x.2.2.2 ∨ openB m s x = false
          · left; rw [e]; unfold leastS; rw [if_pos e1]
          · by_cases e2 : x.2.2.2 < r.1
            · right
              refine ⟨x, by simp, ?_, ?_⟩
              · cases e3 : openB m s x with
                | true => rfl
                | false => exact absurd (Or.inr e3) e1
              · rw [e]; unfold leastS; rw [if_neg e1, if_pos e2]
            · left; rw [e]; unfold leastS; rw [if_neg e1, if_neg e2]
        · exact Or.inr ⟨b, by simp [hb], h1, h2⟩
    rcases keep l (3, fun _ => false) with e | e
    · have e3 : (leastB m s l).1 = 3 := e
      have h1 := h.low a ha ho
      have h2 := h3 a ha
      exact hx ⟨a, ha, ho, by omega⟩
    · exact hx e
end Go.Proofs.YtnkfibahkmmnpaaGreat
namespace Go.Proofs.YtnkfibahkmmnpaaGreat
open Go.RowKit

/-- The masks at a cell. -/
def maskB (c : Cd) (x y : List Int) (i j : Int) : Int → Nat := fun p => (atB c.planes.toNat x.length y.length (runM c x y).slots p i j).mask.toNat
def hasP (c : Cd) (x y : List Int) (p i j : Int) : Bool := (atB c.planes.toNat x.length y.length (runM c x y).slots p i j).has
theorem has_in {c : Cd} {x y : List Int} {p i j : Int} (h : hasP c x y p i j = true) : (0 ≤ p ∧ p < c.planes.toNat) ∧ (0 ≤ i ∧ i ≤ x.length) ∧ (0 ≤ j ∧ j ≤ y.length) := by
  by_cases e : (0 ≤ p ∧ p < c.planes.toNat) ∧ (0 ≤ i ∧ i ≤ x.length) ∧ (0 ≤ j ∧ j ≤ y.length)
  · exact e
  · exfalso
    unfold hasP at h
    rw [at_off e] at h
    exact Bool.noConfusion h
theorem has_kept {c : Cd} (hg : Gk c) {x y : List Int} {p i j : Nat} (hp : 1 ≤ p) (h : hasP c x y p i j = true) : inBd c i j = true ∧ Kept c x.length y.length (runM c x y).slots p i j (atB c.planes.toNat x.length y.length (runM c x y).slots p i j) := by
  obtain ⟨h1, h2, h3⟩ := has_in h
  have hp2 : p < c.planes.toNat := by omega
  have hi : i ≤ x.length := by omega
  have hj : j ≤ y.length := by omega
  have hk := run_kept hg x y
  unfold hasP at h
  rw [atB_in hp2 hi hj] at h ⊢
  by_cases hm : (i, j) ∈ cellsL c x.length y.length
  · exact ⟨((cells_mem c _ _ i j).1 hm).2.2, hk.kept i j hm p hp hp2⟩
  · exfalso
    rw [hk.off i j p hj hp2 hm] at h
    exact Bool.noConfusion h
/-- There is a way. -/
theorem way_is {c : Cd} (hg : Gk c) {x y : List Int} {i j : Nat} {s : Nat → Bool} {p : Nat} (hs : s p = true) (hp : 1 ≤ p) (h : hasP c x y p i j = true) : ∃ a ∈ c.arrows, openB (maskB c x y i j) s a = true := by
  obtain ⟨_, h1, h2⟩ := has_kept hg hp h
  have hm : (atB c.planes.toNat x.length y.length (runM c x y).slots p i j).mask ≠ 0 := by
    unfold hasP at h
    rw [h] at h1
    simpa using h1.symm
  have hok : okN (atB c.planes.toNat x.length y.length (runM c x y).slots p i j) := by
    obtain ⟨g1, g2, g3⟩ := has_in h
    rw [atB_in (by omega) (by omega) (by omega)]
    exact (run_kept hg x y).ok.slots _
  have hn : (atB c.planes.toNat x.length y.length (runM c x y).slots p i j).mask.toNat ≠ 0 := by have := hok.1; omega
  obtain ⟨b, hb⟩ := Nat.exists_testBit_of_ne_zero hn
  obtain ⟨a, ha, e1, e2, _⟩ := h2 b hb
  refine ⟨a, ha, ?_⟩
  unfold openB maskB
  rw [e1, e2, Int.toNat_natCast, Int.toNat_natCast, hs, hb]
  rfl
/-- What a way comes from has a number. -/
theorem way_has {c : Cd} (hg : Gk c) {x y : List Int} {i j : Nat} {s : Nat → Bool} (hs : ∀ p, s p = true → hasP c x y p i j = true) {a : Qd} (ha : a ∈ c.arrows) (ho : openB (maskB c x y i j) s a = true) :
    hasP c x y a.2.2.1 ((i : Int) - (backB a.2.2.2).1) ((j : Int) - (backB a.2.2.2).2) = true := by
  unfold openB at ho
  rw [Bool.and_eq_true] at ho
  have hr := hg.arw ha
  obtain ⟨pn, hpn⟩ : ∃ pn : Nat, a.1 = pn := ⟨a.1.toNat, by omega⟩
  rw [hpn, Int.toNat_natCast] at ho
  obtain ⟨_, _, h2⟩ := has_kept hg (p := pn) (by omega) (hs pn ho.1)
  obtain ⟨b, hb, e1, e2, e3⟩ := h2 _ ho.2
  have : b = a := hg.one hb ha (by rw [e1, hpn]) (by rw [e2]; omega)
  rw [this] at e3
  exact e3
end Go.Proofs.YtnkfibahkmmnpaaGreat
namespace Go.Proofs.YtnkfibahkmmnpaaGreat
open Go.RowKit

/-- Where the walk is: planes, each of which has a number there. -/
structure Wk (c : Cd) (x y : List Int) (i j : Nat) (s : Nat → Bool) : Prop where
  some' : ∃ p, s p = true
  has : ∀ p, s p = true → hasP c x y p i j = true
def leastAt (c : Cd) (x y : List Int) (i j : Nat) (s : Nat → Bool) : Int × (Nat → Bool) := leastB (maskB c x y i j) s c.arrows
theorem Wk.next {c : Cd} (hg : Gk c) {x y : List Int} {i j : Nat} {s : Nat → Bool} (h : Wk c x y i j s) (h0 : s 0 = false) :
    (1 ≤ (leastAt c x y i j s).1 ∧ (leastAt c x y i j s).1 ≤ 3) ∧ ∃ u v : Nat, (u : Int) = i - (backB (leastAt c x y i j s).1).1 ∧ (v : Int) = j - (backB (leastAt c x y i j s).1).2 ∧ u + v < i + j ∧ Wk c x y u v (leastAt c x y i j s).2 := by
  obtain ⟨p, hp⟩ := h.some'
  have hp1 : 1 ≤ p := by
    rcases Nat.eq_zero_or_pos p with e | e
    · rw [e, h0] at hp; cases hp
    · exact e
  obtain ⟨a, ha, ho⟩ := way_is hg hp hp1 (h.has p hp)
  obtain ⟨b, hb, ho2, he, hf⟩ := leastB_some (fun a ha => (hg.arw ha).2.2.2.2) ha ho
  have hst := (hg.arw hb).2.2.2
  have hfr := leastB_ok (maskB c x y i j) s c.arrows
  have hb2 := way_has hg h.has hb ho2
  rw [he] at hst hb2
  unfold leastAt
  generalize leastB (maskB c x y i j) s c.arrows = r at *
  refine ⟨hst, ?_⟩
  obtain ⟨_, g2, g3⟩ := has_in hb2
  refine ⟨((i : Int) - (backB r.1).1).toNat, ((j : Int) - (backB r.1).2).toNat, by omega, by omega, ?_, ⟨_, hf⟩, fun q hq => ?_⟩
  · have hb1 : 1 ≤ (backB r.1).1 + (backB r.1).2 := by
      unfold backB
      have : r.1 = 1 ∨ r.1 = 2 ∨ r.1 = 3 := by omega
      rcases this with e | e | e <;> simp [e]
    omega
  · obtain ⟨d, hd, ho3, he3, hq3⟩ := hfr.from' q hq
    have hd2 := way_has hg h.has hd ho3
    have hdr := (hg.arw hd).2.2.1
    rw [he3, show d.2.2.1 = (q : Int) by omega] at hd2
    rw [show ((((i : Int) - (backB r.1).1).toNat : Nat) : Int) = (i : Int) - (backB r.1).1 by omega, show ((((j : Int) - (backB r.1).2).toNat : Nat) : Int) = (j : Int) - (backB r.1).2 by omega]
    exact hd2
/-- The byte of a column. -/
def colB (st : Int) : Int := if st = 1 then 77 else if st = 2 then 68 else 73
/-- The columns, last first, and where the path begins. -/
def goW (c : Cd) (x y : List Int) : Nat → Nat → Nat → (Nat → Bool) → List Int × Nat × Nat
  | 0, i, j, _ => ([], i, j)
  | n + 1, i, j, s => if s 0 then ([], i, j) else
    let r := leastAt c x y i j s
    let t := goW c x y n ((i : Int) - (backB r.1).1).toNat ((j : Int) - (backB r.1).2).toNat r.2
    (colB r.1 :: t.1, t.2)
/-- More rounds than there are to go make nothing else. -/
theorem goW_more {c : Cd} (hg : Gk c) {x y : List Int} : ∀ (n m i j : Nat) (s : Nat → Bool), Wk c x y i j s → i + j < n → n ≤ m → goW c x y m i j s = goW c x y n i j s
  | 0, _, i, j, _, _, h, _ => by omega
  | n + 1, 0, _, _, _, _, _, h => by omega
  | n + 1, m + 1, i, j, s, hw, h, hm => by
    show (if s 0 = true then _ else _) = (if s 0 = true then _ else _)
    cases h0 : s 0 with
    | true => rfl
    | false =>
      obtain ⟨_, u, v, hu, hv, hlt, hw2⟩ := hw.next hg h0
      have hu2 : ((i : Int) - (backB (leastAt c x y i j s).1).1).toNat = u := by omega
      have hv2 : ((j : Int) - (backB (leastAt c x y i j s).1).2).toNat = v := by omega
      simp only [Bool.false_eq_true, if_false, hu2, hv2]
      rw [goW_more hg n m u v _ hw2 (by omega) (by omega)]
end Go.Proofs.YtnkfibahkmmnpaaGreat
