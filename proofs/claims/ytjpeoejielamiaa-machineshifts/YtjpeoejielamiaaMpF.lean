/-
  Two runs, instruction by instruction: what they have stands in a relation.
-/
import Derived.Test.YtjpeoejielamiaaMpE
namespace Go.Proofs.Ytjpeoejielamiaa
open Go.RowKit

def addC (a : Ct) (k : Int) : Ct := if a.has then ⟨a.has, a.mask, wrap64 (a.num + k)⟩ else a
def endC (e : En) (v : Ct) (m : Bool) (p : Nat) (i j k : Int) : En := if (v.has && m) = true then endB e p i j (wrap64 (v.num + k)) else e
abbrev B62 : Int := 4611686018427387904
structure RelOk (Rel : Ct → Ct → Prop) (ER : En → En → Prop) (KR : Int → Int → Prop) : Prop where
  zero : Rel ct0 ct0
  start : ∀ k k', KR k k' → Rel ⟨true, 0, k⟩ ⟨true, 0, k'⟩
  load : ∀ a a', Rel a a' → Rel ⟨a.has, 0, a.num⟩ ⟨a'.has, 0, a'.num⟩
  edge : ∀ a a', Rel a a' → Rel ⟨false, a.mask, 0⟩ ⟨false, a'.mask, 0⟩
  met : ∀ a a' b b' r, Rel a a' → Rel b b' → Rel (metC a b r) (metC a' b' r)
  keep : ∀ b b', Rel b b' → Rel (if b.has then b else ct0) (if b'.has then b' else ct0)
  add : ∀ a a' k, bnd B62 (a.num + k) → bnd B62 (a'.num + k) → Rel a a' → Rel (addC a k) (addC a' k)
/-- Two instructions alike but for a start's constant. -/
def insR (c d : Cd) (KR : Int → Int → Prop) (q q' : Qd) : Prop :=
  q'.1 = q.1 ∧ q'.2.1 = q.2.1 ∧ q'.2.2.2 = q.2.2.2 ∧ (q.1 ≠ 2 → q'.2.2.1 = q.2.2.1) ∧ (q.1 = 2 → KR (c.consts.getD q.2.2.1.toNat 0) (d.consts.getD q'.2.2.1.toNat 0)) ∧ (q.1 = 4 ∨ q.1 = 8 → d.consts.getD q.2.2.1.toNat 0 = c.consts.getD q.2.2.1.toNat 0)
def al2 (I : Qd → Qd → Prop) : List Qd → List Qd → Prop
  | [], [] => True
  | q :: l, q' :: l' => I q q' ∧ al2 I l l'
  | _, _ => False
/-- What is the same of both codes. -/
structure Two (c d : Cd) (KR : Int → Int → Prop) : Prop where
  letters : d.letters = c.letters
  planes : d.planes = c.planes
  regs : d.regs = c.regs
  table : d.table = c.table
  arrows : d.arrows = c.arrows
  cell : al2 (insR c d KR) c.cell d.cell
theorem al2_mem {I : Qd → Qd → Prop} : ∀ {l l' : List Qd}, al2 I l l' → ∀ q' ∈ l', ∃ q ∈ l, I q q'
  | [], [], _, q', h => by simp at h
  | q :: l, z :: l', hal, q', h => by
    rcases List.mem_cons.1 h with rfl | h
    · exact ⟨q, List.mem_cons_self, hal.1⟩
    · obtain ⟨q0, h0, h1⟩ := al2_mem hal.2 q' h
      exact ⟨q0, List.mem_cons_of_mem _ h0, h1⟩
  | [], _ :: _, hal, _, _ => by cases hal
  | _ :: _, [], hal, _, _ => by cases hal
theorem pair_sim (c : Cd) (f g : Ms → Qd → Ms) (I : Qd → Qd → Prop) (P : St → Ms → Ms → Prop) (L L' : List Qd)
    (hs : ∀ q ∈ L, ∀ q' ∈ L', I q q' → ∀ (S : St) (M M' : Ms), errB c S q = 0 → P S M M' → P (pastP S q) (f M q) (g M' q')) :
    ∀ (l l' : List Qd) (S : St) (k : Nat) (M M' : Ms), (∀ q ∈ l, q ∈ L) → (∀ q ∈ l', q ∈ L') → al2 I l l' → (goP c S k l).1.2 = 0 → P S M M' → P (goP c S k l).2 (l.foldl f M) (l'.foldl g M')
  | [], [], _, _, _, _, _, _, _, _, h => h
  | q :: l, q' :: l', S, k, M, M', h1, h2, hal, hg, h => by
    unfold goP at hg ⊢
    split
    · rename_i e
      rw [if_pos e] at hg
      exact pair_sim c f g I P L L' hs l l' (pastP S q) (k + 1) (f M q) (g M' q') (fun z hz => h1 z (List.mem_cons_of_mem _ hz)) (fun z hz => h2 z (List.mem_cons_of_mem _ hz)) hal.2 hg (hs q (h1 q List.mem_cons_self) q' (h2 q' List.mem_cons_self) hal.1 S M M' e h)
    · rename_i e
      rw [if_neg e] at hg
      exact absurd hg e
  | [], _ :: _, _, _, _, _, _, _, hal, _, _ => by cases hal
  | _ :: _, [], _, _, _, _, _, _, hal, _, _ => by cases hal
/-- Two runs at a cell. -/
structure CellR (Rel : Ct → Ct → Prop) (ER : En → En → Prop) (P Y Y' : Nat) (F F' : Nat → Ct) (i j : Nat) (S : St) (M M' : Ms) : Prop where
  regs : ∀ r, (S.regs r).wr = true → Rel (M.regs r) (M'.regs r)
  pl : ∀ p, p < P → (S.pl p).1 = true → Rel (M.slots (placeB P Y p i j)) (M'.slots (placeB P Y' p i j))
  frame : ∀ k, (∀ p, p < P → k ≠ placeB P Y p i j) → M.slots k = F k
  frame' : ∀ k, (∀ p, p < P → k ≠ placeB P Y' p i j) → M'.slots k = F' k
  ends : ER M.ends M'.ends
theorem act_add (c : Cd) (x y : List Int) (i j : Nat) (M : Ms) (q : Qd) (h : q.1 = 4) : actB c x y i j M q = { M with regs := updC M.regs q.2.1.toNat (addC (M.regs q.2.1.toNat) (c.consts.getD q.2.2.1.toNat 0)) } := by
  simp only [actB, h]
  show { M with regs := if (M.regs q.2.1.toNat).has = true then _ else M.regs } = _
  unfold addC
  by_cases e : (M.regs q.2.1.toNat).has = true
  · rw [if_pos e, if_pos e]
  · rw [if_neg e, if_neg e]
    congr 1
    funext t; unfold updC; split
    · rename_i e'; rw [e']
    · rfl
theorem act_tab (c : Cd) (x y : List Int) (i j : Nat) (M : Ms) (q : Qd) (h : q.1 = 5) : actB c x y i j M q = { M with regs := updC M.regs q.2.1.toNat (if i = 0 ∨ j = 0 then ⟨false, (M.regs q.2.1.toNat).mask, 0⟩ else addC (M.regs q.2.1.toNat) (c.table.getD (x.getD (i - 1) 0 * c.letters + y.getD (j - 1) 0).toNat 0)) } := by
  simp only [actB, h]
  show (if i = 0 ∨ j = 0 then { M with regs := _ } else { M with regs := if (M.regs q.2.1.toNat).has = true then _ else M.regs } : Ms) = _
  by_cases e0 : i = 0 ∨ j = 0
  · rw [if_pos e0, if_pos e0]
  · rw [if_neg e0, if_neg e0]
    unfold addC
    by_cases e : (M.regs q.2.1.toNat).has = true
    · rw [if_pos e, if_pos e]
    · rw [if_neg e, if_neg e]
      congr 1
      funext t; unfold updC; split
      · rename_i e'; rw [e']
      · rfl
theorem act_end (c : Cd) (x y : List Int) (i j : Nat) (M : Ms) (q : Qd) (h : q.1 = 8) : actB c x y i j M q = { M with ends := endC M.ends (atB c.planes.toNat x.length y.length M.slots q.2.1 i j) (metB q.2.2.2 (decide (i = x.length)) (decide (j = y.length))) q.2.1.toNat i j (c.consts.getD q.2.2.1.toNat 0) } := by
  simp only [actB, h]
  show (if _ then { M with ends := _ } else M : Ms) = _
  unfold endC
  split <;> rfl
theorem CellR.act {Rel : Ct → Ct → Prop} {ER : En → En → Prop} {KR : Int → Int → Prop} (ho : RelOk Rel ER KR) {c d : Cd} (hc : Gk c) (ht : Two c d KR) {K T B K' T' B' : Int} (hl : Lm c K T) (hl' : Lm d K' T') (hB : 0 ≤ B ∧ B + T * K ≤ B62) (hB' : 0 ≤ B' ∧ B' + T' * K' ≤ B62)
    {x y x' y' : List Int} {F F' : Nat → Ct} {i j : Nat} (hi : i ≤ x.length) (hj : j ≤ y.length) (hi' : i ≤ x'.length) (hj' : j ≤ y'.length)
    (hx : 0 < i → x'.getD (i - 1) 0 = x.getD (i - 1) 0) (hy : 0 < j → y'.getD (j - 1) 0 = y.getD (j - 1) 0)
    (hF : ∀ (p s : Int), 1 ≤ s ∧ s ≤ 3 → Rel (atB c.planes.toNat x.length y.length F p ((i : Int) - (backB s).1) ((j : Int) - (backB s).2)) (atB c.planes.toNat x'.length y'.length F' p ((i : Int) - (backB s).1) ((j : Int) - (backB s).2)))
    (hE : ∀ (e e' : En) (v v' : Ct) (w : Int) (p : Nat) (k : Int), Rel v v' → bnd B62 (v.num + k) → bnd B62 (v'.num + k) → ER e e' → ER (endC e v (metB w (decide (i = x.length)) (decide (j = y.length))) p i j k) (endC e' v' (metB w (decide (i = x'.length)) (decide (j = y'.length))) p i j k))
    {S : St} {M M' : Ms} {q q' : Qd} (hq : q ∈ c.cell) (hI : insR c d KR q q') (he : errB c S q = 0) (hT : (pastP S q).top ≤ T) (hT' : (pastP S q).top ≤ T')
    (h : CellR Rel ER c.planes.toNat y.length y'.length F F' i j S M M') (hb : CellB c K T B y.length F i j S M) (hb' : CellB d K' T' B' y'.length F' i j S M') :
    CellR Rel ER c.planes.toNat y.length y'.length F F' i j (pastP S q) (actB c x y i j M q) (actB d x' y' i j M' q') := by
  obtain ⟨e1, e2, e3, e4⟩ := err_0 he
  have hn := hc.nam hq
  obtain ⟨i1, i2, i3, i4, i5, i6⟩ := hI
  have hfr := fun k hk => (act_frame c x y i j M q (hc.keepP q hq) k hk).trans (h.frame k hk)
  have hPd : d.planes.toNat = c.planes.toNat := by rw [ht.planes]
  have hfr' : ∀ k, (∀ p, p < c.planes.toNat → k ≠ placeB c.planes.toNat y'.length p i j) → (actB d x' y' i j M' q').slots k = F' k := fun k hk => by
    have := act_frame d x' y' i j M' q' (by rw [i1, i2, hPd]; exact hc.keepP q hq) k (by rw [hPd]; exact hk)
    rw [this]; exact h.frame' k hk
  have hregs : ∀ (k : Nat) (a : Rg) (v v' : Ct), Rel v v' → ∀ r, (updR S.regs k a r).wr = true → Rel (updC M.regs k v r) (updC M'.regs k v' r) := by
    intro k a v v' ha r
    unfold updR updC
    by_cases e : r = k
    · rw [if_pos e, if_pos e, if_pos e]; exact fun _ => ha
    · rw [if_neg e, if_neg e, if_neg e]; exact h.regs r
  by_cases h1 : q.1 = 1
  · have a1 : actB c x y i j M q = { M with regs := updC M.regs q.2.1.toNat ct0 } := by simp only [actB, h1]; rfl
    have a2 : actB d x' y' i j M' q' = { M' with regs := updC M'.regs q.2.1.toNat ct0 } := by simp only [actB, i1.trans h1, i2]; rfl
    refine ⟨?_, ?_, hfr, hfr', ?_⟩
    · rw [a1, a2]; simp only [pastP, h1]; exact hregs _ _ _ _ ho.zero
    · rw [a1, a2]; simp only [pastP, h1]; exact h.pl
    · rw [a1, a2]; exact h.ends
  by_cases h2 : q.1 = 2
  · have a1 : actB c x y i j M q = { M with regs := updC M.regs q.2.1.toNat (if metB q.2.2.2 (decide (i = 0)) (decide (j = 0)) then ⟨true, 0, c.consts.getD q.2.2.1.toNat 0⟩ else ct0) } := by simp only [actB, h2]; rfl
    have a2 : actB d x' y' i j M' q' = { M' with regs := updC M'.regs q.2.1.toNat (if metB q.2.2.2 (decide (i = 0)) (decide (j = 0)) then ⟨true, 0, d.consts.getD q'.2.2.1.toNat 0⟩ else ct0) } := by simp only [actB, i1.trans h2, i2, i3]; rfl
    refine ⟨?_, ?_, hfr, hfr', ?_⟩
    · rw [a1, a2]; simp only [pastP, h2]
      refine hregs _ _ _ _ ?_
      split
      · exact ho.start _ _ (i5 h2)
      · exact ho.zero
    · rw [a1, a2]; simp only [pastP, h2]; exact h.pl
    · rw [a1, a2]; exact h.ends
  by_cases h3 : q.1 = 3
  · have ib := i4 (by omega)
    have a1 : actB c x y i j M q = { M with regs := updC M.regs q.2.1.toNat ⟨(atB c.planes.toNat x.length y.length M.slots q.2.2.1 ((i : Int) - (backB q.2.2.2).1) ((j : Int) - (backB q.2.2.2).2)).has, 0, (atB c.planes.toNat x.length y.length M.slots q.2.2.1 ((i : Int) - (backB q.2.2.2).1) ((j : Int) - (backB q.2.2.2).2)).num⟩ } := by simp only [actB, h3]; rfl
    have a2 : actB d x' y' i j M' q' = { M' with regs := updC M'.regs q.2.1.toNat ⟨(atB c.planes.toNat x'.length y'.length M'.slots q.2.2.1 ((i : Int) - (backB q.2.2.2).1) ((j : Int) - (backB q.2.2.2).2)).has, 0, (atB c.planes.toNat x'.length y'.length M'.slots q.2.2.1 ((i : Int) - (backB q.2.2.2).1) ((j : Int) - (backB q.2.2.2).2)).num⟩ } := by simp only [actB, i1.trans h3, i2, i3, ib, hPd]; rfl
    refine ⟨?_, ?_, hfr, hfr', ?_⟩
    · rw [a1, a2]; simp only [pastP, h3]
      refine hregs _ _ _ _ (ho.load _ _ ?_)
      by_cases h0 : q.2.2.2 = 0
      · have hw : (S.pl q.2.2.1.toNat).1 = true := by
          simp only [rdB, h3, h0] at e2; simpa using e2
        have hpp : q.2.2.1.toNat < c.planes.toNat := by
          have h5 := hn.2.2.1
          rw [h3] at h5
          have e : (limB c 3).2.1 = c.planes := rfl
          rw [e] at h5; have := hc.rt.planes; omega
        have hq0 : (q.2.2.1.toNat : Int) = q.2.2.1 := by have := hn.2.2.1.1; omega
        have hb0 : backB 0 = (0, 0) := rfl
        rw [h0, hb0, Int.sub_zero, Int.sub_zero, ← hq0, atB_in hpp hi hj, atB_in hpp hi' hj']
        exact h.pl _ hpp hw
      · have hs : 1 ≤ q.2.2.2 ∧ q.2.2.2 ≤ 3 := by
          have := hn.2.2.2
          rw [h3] at this
          have e : (limB c 3).2.2 = 4 := rfl
          rw [e] at this
          omega
        rw [at_other (X := x.length) hj h.frame q.2.2.1 ((i : Int) - (backB q.2.2.2).1) ((j : Int) - (backB q.2.2.2).2) (by have := back_lex hs; omega), at_other (X := x'.length) hj' h.frame' q.2.2.1 ((i : Int) - (backB q.2.2.2).1) ((j : Int) - (backB q.2.2.2).2) (by have := back_lex hs; omega)]
        exact hF _ _ hs
    · rw [a1, a2]; simp only [pastP, h3]; exact h.pl
    · rw [a1, a2]; exact h.ends
  -- sums stay small
  have hsum : ∀ k : Int, bnd K k → bnd K' k → (S.regs q.2.1.toNat).wr = true → (S.regs q.2.1.toNat).weight + 1 ≤ T → (S.regs q.2.1.toNat).weight + 1 ≤ T' → bnd B62 ((M.regs q.2.1.toNat).num + k) ∧ bnd B62 ((M'.regs q.2.1.toNat).num + k) := by
    intro k hk hk' hwr ht1 ht2
    have r1 := (hb.regs _ hwr).2
    have r2 := (hb'.regs _ hwr).2
    have w1 := hl.le ht1
    have w2 := hl'.le ht2
    rw [Int.add_mul, Int.one_mul] at w1 w2
    unfold bnd at *
    omega
  by_cases h4 : q.1 = 4
  · have hwr : (S.regs q.2.1.toNat).wr = true := by simp only [rdB, h4] at e2; simpa using e2
    have ib := i4 (by omega)
    have hp : pastP S q = weighP (setR S q.2.1.toNat (addB (S.regs q.2.1.toNat))) ((S.regs q.2.1.toNat).weight + 1) := by simp only [pastP, h4]; rfl
    rw [hp] at hT hT' ⊢
    have htop : (weighP (setR S q.2.1.toNat (addB (S.regs q.2.1.toNat))) ((S.regs q.2.1.toNat).weight + 1)).top = max S.top ((S.regs q.2.1.toNat).weight + 1) := rfl
    rw [htop] at hT hT'
    have hk' : bnd K' (c.consts.getD q.2.2.1.toNat 0) := by rw [← i6 (Or.inl h4)]; exact hl'.consts _
    have hss := hsum _ (hl.consts q.2.2.1.toNat) hk' hwr (by omega) (by omega)
    refine ⟨?_, ?_, hfr, hfr', ?_⟩
    · rw [act_add c x y i j M q h4, act_add d x' y' i j M' q' (i1.trans h4), i2, ib, i6 (Or.inl h4)]
      exact hregs _ _ _ _ (ho.add _ _ _ hss.1 hss.2 (h.regs _ hwr))
    · rw [act_add c x y i j M q h4, act_add d x' y' i j M' q' (i1.trans h4)]; exact h.pl
    · rw [act_add c x y i j M q h4, act_add d x' y' i j M' q' (i1.trans h4)]; exact h.ends
  by_cases h5 : q.1 = 5
  · have hwr : (S.regs q.2.1.toNat).wr = true := by simp only [rdB, h5] at e2; simpa using e2
    have hp : pastP S q = weighP (setR S q.2.1.toNat (addB (S.regs q.2.1.toNat))) ((S.regs q.2.1.toNat).weight + 1) := by simp only [pastP, h5]; rfl
    rw [hp] at hT hT' ⊢
    have htop : (weighP (setR S q.2.1.toNat (addB (S.regs q.2.1.toNat))) ((S.regs q.2.1.toNat).weight + 1)).top = max S.top ((S.regs q.2.1.toNat).weight + 1) := rfl
    rw [htop] at hT hT'
    refine ⟨?_, ?_, hfr, hfr', ?_⟩
    · rw [act_tab c x y i j M q h5, act_tab d x' y' i j M' q' (i1.trans h5), i2]
      refine hregs _ _ _ _ ?_
      by_cases h0 : i = 0 ∨ j = 0
      · rw [if_pos h0, if_pos h0]; exact ho.edge _ _ (h.regs _ hwr)
      · rw [if_neg h0, if_neg h0, ht.table, ht.letters, hx (by omega), hy (by omega)]
        have hk' : bnd K' (c.table.getD (x.getD (i - 1) 0 * c.letters + y.getD (j - 1) 0).toNat 0) := by rw [← ht.table]; exact hl'.table _
        have hss := hsum _ (hl.table (x.getD (i - 1) 0 * c.letters + y.getD (j - 1) 0).toNat) hk' hwr (by omega) (by omega)
        exact ho.add _ _ _ hss.1 hss.2 (h.regs _ hwr)
    · rw [act_tab c x y i j M q h5, act_tab d x' y' i j M' q' (i1.trans h5)]; exact h.pl
    · rw [act_tab c x y i j M q h5, act_tab d x' y' i j M' q' (i1.trans h5)]; exact h.ends
  by_cases h6 : q.1 = 6
  · have hw : (S.regs q.2.1.toNat).wr = true ∧ (S.regs q.2.2.1.toNat).wr = true := by
      simp only [rdB, h6] at e2; simpa using e2
    have ib := i4 (by omega)
    have a1 : actB c x y i j M q = { M with regs := updC M.regs q.2.1.toNat (metC (M.regs q.2.1.toNat) (M.regs q.2.2.1.toNat) q.2.2.2) } := by simp only [actB, h6]; rfl
    have a2 : actB d x' y' i j M' q' = { M' with regs := updC M'.regs q.2.1.toNat (metC (M'.regs q.2.1.toNat) (M'.regs q.2.2.1.toNat) q.2.2.2) } := by simp only [actB, i1.trans h6, i2, i3, ib]; rfl
    refine ⟨?_, ?_, hfr, hfr', ?_⟩
    · rw [a1, a2]; simp only [pastP, h6]
      exact hregs _ _ _ _ (ho.met _ _ _ _ _ (h.regs _ hw.1) (h.regs _ hw.2))
    · rw [a1, a2]; simp only [pastP, h6]; exact h.pl
    · rw [a1, a2]; exact h.ends
  by_cases h7 : q.1 = 7
  · have hwr : (S.regs q.2.2.1.toNat).wr = true := by simp only [rdB, h7] at e2; simpa using e2
    have ib := i4 (by omega)
    have hp7 := hc.keepP q hq h7
    have a1 : actB c x y i j M q = { M with slots := updC M.slots (placeB c.planes.toNat y.length q.2.1.toNat i j) (if (M.regs q.2.2.1.toNat).has then M.regs q.2.2.1.toNat else ct0) } := by simp only [actB, h7]; rfl
    have a2 : actB d x' y' i j M' q' = { M' with slots := updC M'.slots (placeB c.planes.toNat y'.length q.2.1.toNat i j) (if (M'.regs q.2.2.1.toNat).has then M'.regs q.2.2.1.toNat else ct0) } := by simp only [actB, i1.trans h7, i2, ib, hPd]; rfl
    refine ⟨?_, ?_, hfr, hfr', ?_⟩
    · rw [a1, a2]; simp only [pastP, h7]; exact h.regs
    · rw [a1, a2]; simp only [pastP, h7]
      show ∀ p, p < c.planes.toNat → (updP S.pl q.2.1.toNat (true, (S.regs q.2.2.1.toNat).weight) p).1 = true → Rel (updC M.slots (placeB c.planes.toNat y.length q.2.1.toNat i j) _ (placeB c.planes.toNat y.length p i j)) (updC M'.slots (placeB c.planes.toNat y'.length q.2.1.toNat i j) _ (placeB c.planes.toNat y'.length p i j))
      intro p p2
      by_cases e : p = q.2.1.toNat
      · subst e
        intro _
        rw [updC_same, updC_same]
        exact ho.keep _ _ (h.regs _ hwr)
      · rw [updP_ne _ _ e, updC_ne _ _ (fun e' => e (place_inj p2 hp7 hj hj e').1), updC_ne _ _ (fun e' => e (place_inj p2 hp7 hj' hj' e').1)]
        exact h.pl p p2
    · rw [a1, a2]; exact h.ends
  · have h8 : q.1 = 8 := by have := hn.1; omega
    have ib := i4 (by omega)
    have hw : (S.pl q.2.1.toNat).1 = true := by
      simp only [rdB, h8] at e2; simpa using e2
    have hpp : q.2.1.toNat < c.planes.toNat := by
      have h5 := hn.2.1
      rw [h8] at h5
      have e : (limB c 8).1 = c.planes := rfl
      rw [e] at h5; have := hc.rt.planes; omega
    have hq0 : (q.2.1.toNat : Int) = q.2.1 := by have := hn.2.1.1; omega
    have ep : pastP S q = weighP S ((S.pl q.2.1.toNat).2 + 1) := by simp only [pastP, h8]; rfl
    rw [ep] at hT hT' ⊢
    have htop : (weighP S ((S.pl q.2.1.toNat).2 + 1)).top = max S.top ((S.pl q.2.1.toNat).2 + 1) := rfl
    rw [htop] at hT hT'
    refine ⟨?_, ?_, hfr, hfr', ?_⟩
    · rw [act_end c x y i j M q h8, act_end d x' y' i j M' q' (i1.trans h8)]; exact h.regs
    · rw [act_end c x y i j M q h8, act_end d x' y' i j M' q' (i1.trans h8)]; exact h.pl
    · rw [act_end c x y i j M q h8, act_end d x' y' i j M' q' (i1.trans h8), i2, i3, ib, i6 (Or.inr h8), hPd]
      have r1 := (hb.pl _ hpp hw).2
      have r2 := (hb'.pl _ (by rw [hPd]; exact hpp) hw).2
      rw [hPd] at r2
      have w1 := hl.le (x := (S.pl q.2.1.toNat).2 + 1) (by omega)
      have w2 := hl'.le (x := (S.pl q.2.1.toNat).2 + 1) (by omega)
      rw [Int.add_mul, Int.one_mul] at w1 w2
      have k1 := hl.consts q.2.2.1.toNat
      have k2 : bnd K' (c.consts.getD q.2.2.1.toNat 0) := by rw [← i6 (Or.inr h8)]; exact hl'.consts _
      show ER (endC M.ends _ _ _ _ _ _) (endC M'.ends _ _ _ _ _ _)
      rw [← hq0, atB_in hpp hi hj, atB_in hpp hi' hj']
      exact hE _ _ _ _ _ _ _ (h.pl _ hpp hw) (by unfold bnd at *; omega) (by unfold bnd at *; omega) h.ends
theorem err_mk {c : Cd} {S : St} {q : Qd} (h1 : namB c q = true) (h2 : rdB S q = true) (h3 : twB S q = false) (h4 : gdB c S q = true) : errB c S q = 0 := by
  unfold errB
  rw [if_neg (by rw [h1]; decide), if_neg (by rw [h2]; decide), if_neg (by rw [h3]; decide), if_neg (by rw [h4]; decide)]
theorem ins_same {c d : Cd} {KR : Int → Int → Prop} {q q' : Qd} (hI : insR c d KR q q') (S : St) : pastP S q' = pastP S q ∧ rdB S q' = rdB S q ∧ twB S q' = twB S q := by
  obtain ⟨o, a, b, r⟩ := q
  obtain ⟨o', a', b', r'⟩ := q'
  obtain ⟨i1, i2, i3, i4, _, _⟩ := hI
  simp only at i1 i2 i3 i4
  subst i1 i2 i3
  by_cases h2 : o' = 2
  · subst h2; exact ⟨rfl, rfl, rfl⟩
  · have := i4 h2; subst this; exact ⟨rfl, rfl, rfl⟩
theorem ins_err {c d : Cd} {KR : Int → Int → Prop} (hd : Gk d) (ht : Two c d KR) {q q' : Qd} (hq' : q' ∈ d.cell) (hI : insR c d KR q q') {S : St} (he : errB c S q = 0) : errB d S q' = 0 := by
  obtain ⟨e1, e2, e3, e4⟩ := err_0 he
  obtain ⟨s1, s2, s3⟩ := ins_same hI S
  have hn := hd.nam hq'
  refine err_mk ?_ (s2.trans e2) (s3.trans e3) ?_
  · simp only [namB, Bool.and_eq_true, decide_eq_true_eq]; exact ⟨⟨hn.2.1.2, hn.2.2.1.2⟩, hn.2.2.2.2⟩
  · rw [← e4]
    obtain ⟨i1, i2, i3, i4, _, _⟩ := hI
    unfold gdB
    rw [i1, ht.arrows, i2]
    by_cases h7 : q.1 = 7
    · rw [i4 (by omega)]
    · rw [if_neg h7, if_neg h7]
theorem goP_same {c d : Cd} {KR : Int → Int → Prop} (hd : Gk d) (ht : Two c d KR) : ∀ (l l' : List Qd) (S : St) (k k' : Nat), al2 (insR c d KR) l l' → (∀ q ∈ l', q ∈ d.cell) → (goP c S k l).1.2 = 0 → (goP d S k' l').2 = (goP c S k l).2
  | [], [], _, _, _, _, _, _ => rfl
  | q :: l, q' :: l', S, k, k', hal, hm, hg => by
    unfold goP at hg ⊢
    by_cases e : errB c S q = 0
    · rw [if_pos e] at hg
      rw [if_pos e, if_pos (ins_err hd ht (hm q' List.mem_cons_self) hal.1 e), (ins_same hal.1 S).1]
      exact goP_same hd ht l l' _ _ _ hal.2 (fun z hz => hm z (List.mem_cons_of_mem _ hz)) hg
    · rw [if_neg e] at hg; exact absurd hg e
  | [], _ :: _, _, _, _, hal, _, _ => by cases hal
  | _ :: _, [], _, _, _, hal, _, _ => by cases hal
/-- A cell, run by both. -/
theorem cell_rel {Rel : Ct → Ct → Prop} {ER : En → En → Prop} {KR : Int → Int → Prop} (ho : RelOk Rel ER KR) {c d : Cd} (hc : Gk c) (hd : Gk d) (ht : Two c d KR) {K T B K' T' B' : Int} (hl : Lm c K T) (hl' : Lm d K' T') (hB : 0 ≤ B ∧ B + T * K ≤ B62) (hB' : 0 ≤ B' ∧ B' + T' * K' ≤ B62)
    {x y x' y' : List Int} {i j : Nat} (hi : i ≤ x.length) (hj : j ≤ y.length) (hi' : i ≤ x'.length) (hj' : j ≤ y'.length)
    (hx : 0 < i → x'.getD (i - 1) 0 = x.getD (i - 1) 0) (hy : 0 < j → y'.getD (j - 1) 0 = y.getD (j - 1) 0) {M0 M0' : Ms}
    (hF : ∀ (p s : Int), 1 ≤ s ∧ s ≤ 3 → Rel (atB c.planes.toNat x.length y.length M0.slots p ((i : Int) - (backB s).1) ((j : Int) - (backB s).2)) (atB c.planes.toNat x'.length y'.length M0'.slots p ((i : Int) - (backB s).1) ((j : Int) - (backB s).2)))
    (hE : ∀ (e e' : En) (v v' : Ct) (w : Int) (p : Nat) (k : Int), Rel v v' → bnd B62 (v.num + k) → bnd B62 (v'.num + k) → ER e e' → ER (endC e v (metB w (decide (i = x.length)) (decide (j = y.length))) p i j k) (endC e' v' (metB w (decide (i = x'.length)) (decide (j = y'.length))) p i j k))
    (hbk : backB2 c B x.length y.length M0.slots i j) (hbk' : backB2 d B' x'.length y'.length M0'.slots i j) (hs : bnd B62 M0.ends.score) (hs' : bnd B62 M0'.ends.score) (her : ER M0.ends M0'.ends) :
    CellR Rel ER c.planes.toNat y.length y'.length M0.slots M0'.slots i j (goP c (st0 0) 0 c.cell).2 (c.cell.foldl (actB c x y i j) M0) (d.cell.foldl (actB d x' y' i j) M0') := by
  have h0 : CellR Rel ER c.planes.toNat y.length y'.length M0.slots M0'.slots i j (st0 0) M0 M0' := ⟨fun r hr => by simp [st0, rg0] at hr, fun p _ hp => by simp [st0] at hp, fun _ _ => rfl, fun _ _ => rfl, her⟩
  have h1 : CellB c K T B y.length M0.slots i j (st0 0) M0 := ⟨fun r hr => by simp [st0, rg0] at hr, fun p _ hp => by simp [st0] at hp, fun _ _ => rfl, hs⟩
  have h2 : CellB d K' T' B' y'.length M0'.slots i j (st0 0) M0' := ⟨fun r hr => by simp [st0, rg0] at hr, fun p _ hp => by simp [st0] at hp, fun _ _ => rfl, hs'⟩
  have hsame := goP_same hd ht c.cell d.cell (st0 0) 0 0 ht.cell (fun _ h => h) hc.go
  have hT' : (goP c (st0 0) 0 c.cell).2.top ≤ T' := by rw [← hsame]; exact hl'.top
  have key := pair_sim c (actB c x y i j) (actB d x' y' i j) (insR c d KR) (fun S M M' => S.top ≤ T → S.top ≤ T' → CellR Rel ER c.planes.toNat y.length y'.length M0.slots M0'.slots i j S M M' ∧ CellB c K T B y.length M0.slots i j S M ∧ CellB d K' T' B' y'.length M0'.slots i j S M') c.cell d.cell
    (fun q hq q' hq' hI S M M' he hP t1 t2 => by
      have hm := top_mono S q
      obtain ⟨r1, r2, r3⟩ := hP (by omega) (by omega)
      have hp := (ins_same hI S).1
      refine ⟨r1.act ho hc ht hl hl' hB hB' hi hj hi' hj' hx hy hF hE hq hI he t1 t2 r2 r3, r2.act hc hl hi hj hB hbk hq he t1, ?_⟩
      have := r3.act hd hl' hi' hj' hB' hbk' hq' (ins_err hd ht hq' hI he) (by rw [hp]; exact t2)
      rw [hp] at this
      exact this)
    c.cell d.cell (st0 0) 0 M0 M0' (fun _ h => h) (fun _ h => h) ht.cell hc.go (fun _ _ => ⟨h0, h1, h2⟩)
  exact (key hl.top hT').1
end Go.Proofs.Ytjpeoejielamiaa
