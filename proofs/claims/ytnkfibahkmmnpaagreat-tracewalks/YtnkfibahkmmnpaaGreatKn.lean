/-
  The document's own run, in plain values: cell by cell, with what keeps. The document's own table in memory.
-/
import Derived.Test.YtnkfibahkmmnpaaGreatKc
import Derived.Test.YtnkfibahkmmnpaaGreatVrF
namespace Go.Proofs.YtnkfibahkmmnpaaGreat
open Go.RowKit

def nzC (c : Ct) : Ct := if c.has then c else ct0
theorem nz_yes {c : Ct} (h : c.has = true) : nzC c = c := by unfold nzC; rw [if_pos h]
theorem nz_no {c : Ct} (h : c.has = false) : nzC c = ct0 := by unfold nzC; rw [h]; rfl
theorem nz_has (c : Ct) : (nzC c).has = c.has := by
  cases h : c.has with
  | true => rw [nz_yes h, h]
  | false => rw [nz_no h]; rfl
/-- Row by row, all cells: those in the band are run. -/
def rowK (c : Cd) (x y : List Int) (i j : Nat) (M : Ms) : Ms := (List.range j).foldl (fun M j => if inBd c i j then cellM c x y i j M else M) M
def runK (c : Cd) (x y : List Int) (i : Nat) : Ms := (List.range i).foldl (fun M i => rowK c x y i (y.length + 1) M) ms0
theorem rowK_succ (c : Cd) (x y : List Int) (i j : Nat) (M : Ms) : rowK c x y i (j + 1) M = if inBd c i j then cellM c x y i j (rowK c x y i j M) else rowK c x y i j M := by
  unfold rowK
  rw [List.range_succ, List.foldl_append]
  rfl
theorem runK_succ (c : Cd) (x y : List Int) (i : Nat) : runK c x y (i + 1) = rowK c x y i (y.length + 1) (runK c x y i) := by
  unfold runK
  rw [List.range_succ, List.foldl_append]
  rfl
theorem runK_is (c : Cd) (x y : List Int) : runK c x y (x.length + 1) = runM c x y := by
  unfold runK runM
  congr 1
  funext M i
  unfold rowK rowM
  rw [row_cells, List.foldl_filter]
theorem act_slots (c : Cd) (x y : List Int) (i j : Nat) (M : Ms) {q : Qd} (h : q.1 ≠ 7) : (actB c x y i j M q).slots = M.slots := by
  unfold actB
  split
  · rfl
  split
  · rfl
  split
  · rfl
  split
  · rfl
  split
  · show (if i = 0 ∨ j = 0 then _ else _ : Ms).slots = _
    split <;> rfl
  split
  · rfl
  show (if _ then _ else M : Ms).slots = _
  split <;> rfl
theorem act_keep (c : Cd) (x y : List Int) (i j : Nat) (M : Ms) {q : Qd} (h : q.1 = 7) : actB c x y i j M q = { M with slots := updC M.slots (placeB c.planes.toNat y.length q.2.1.toNat i j) (nzC (M.regs q.2.2.1.toNat)) } := by
  unfold actB
  rw [if_neg (by omega), if_neg (by omega), if_neg (by omega), if_neg (by omega), if_neg (by omega), if_neg (by omega), if_pos h]
  rfl
theorem end_planes (e : En) (p : Nat) (i j n : Int) (k : Nat) (h : (endB e p i j n).planes k = true) : e.planes k = true ∨ k = p := by
  unfold endB at h
  by_cases h1 : (!e.found || decide (e.score < n)) = true
  · simp only [h1, if_true, and_self] at h
    by_cases e1 : k = p
    · exact Or.inr e1
    · rw [if_neg e1] at h; exact Bool.noConfusion h
  · simp only [h1, Bool.false_eq_true, if_false] at h
    split at h
    · by_cases e1 : k = p
      · exact Or.inr e1
      · have h' : (if k = p then true else e.planes k) = true := h
        rw [if_neg e1] at h'; exact Or.inl h'
    · exact Or.inl h
/-- What keeps: what has no number is nothing; off the band there is nothing; only planes end. -/
structure Nrm (c : Cd) (X Y : Nat) (M : Ms) : Prop where
  nz : ∀ k, (M.slots k).has = false → M.slots k = ct0
  off : ∀ u v p, u ≤ X → v ≤ Y → p < c.planes.toNat → inBd c u v = false → M.slots (placeB c.planes.toNat Y p u v) = ct0
  pl : ∀ k, M.ends.planes k = true → k < c.planes.toNat
  ok : MOk M
theorem Nrm.start (c : Cd) (X Y : Nat) : Nrm c X Y ms0 := ⟨fun _ _ => rfl, fun _ _ _ _ _ _ _ => rfl, fun _ h => Bool.noConfusion h, MOk.start⟩
theorem Nrm.act {c : Cd} (hg : Gk c) {x y : List Int} {i j : Nat} (hj : j ≤ y.length) (hb : inBd c i j = true) {M : Ms} (h : Nrm c x.length y.length M) {q : Qd} (hq : q ∈ c.cell) : Nrm c x.length y.length (actB c x y i j M q) := by
  have hok := h.ok.act c x y i j q (hg.bit q hq)
  have hn := hg.nam hq
  have hpl : ∀ k, (actB c x y i j M q).ends.planes k = true → k < c.planes.toNat := by
    intro k
    by_cases h8 : q.1 = 8
    · have hq1 : q.2.1.toNat < c.planes.toNat := by
        have h1 := hn.2.1
        rw [h8] at h1
        have : (limB c 8).1 = c.planes := rfl
        rw [this] at h1
        omega
      have e : (actB c x y i j M q).ends = M.ends ∨ ∃ n, (actB c x y i j M q).ends = endB M.ends q.2.1.toNat i j n := by
        have ea : actB c x y i j M q = if ((atB c.planes.toNat x.length y.length M.slots q.2.1 i j).has && metB q.2.2.2 (decide (i = x.length)) (decide (j = y.length))) = true then { M with ends := endB M.ends q.2.1.toNat i j (wrap64 ((atB c.planes.toNat x.length y.length M.slots q.2.1 i j).num + c.consts.getD q.2.2.1.toNat 0)) } else M := by
          unfold actB
          rw [if_neg (by omega), if_neg (by omega), if_neg (by omega), if_neg (by omega), if_neg (by omega), if_neg (by omega), if_neg (by omega)]
        rw [ea]
        split
        · exact Or.inr ⟨_, rfl⟩
        · exact Or.inl rfl
      rcases e with e | ⟨n, e⟩
      · rw [e]; exact h.pl k
      · rw [e]
        intro hk
        rcases end_planes _ _ _ _ _ _ hk with z | z
        · exact h.pl k z
        · omega
    · have e : (actB c x y i j M q).ends = M.ends := by
        unfold actB
        split
        · rfl
        split
        · rfl
        split
        · rfl
        split
        · rfl
        split
        · show (if i = 0 ∨ j = 0 then _ else _ : Ms).ends = _
          split <;> rfl
        split
        · rfl
        split
        · rfl
        · exfalso; have := hn.1; omega
      rw [e]; exact h.pl k
  by_cases h7 : q.1 = 7
  · have hp7 := hg.keepP q hq h7
    rw [act_keep c x y i j M h7] at hok hpl ⊢
    refine ⟨fun k hk => ?_, fun u v p hu hv hp huv => ?_, hpl, hok⟩
    · have hk' : (updC M.slots (placeB c.planes.toNat y.length q.2.1.toNat i j) (nzC (M.regs q.2.2.1.toNat)) k).has = false := hk
      show updC M.slots (placeB c.planes.toNat y.length q.2.1.toNat i j) (nzC (M.regs q.2.2.1.toNat)) k = ct0
      unfold updC at hk' ⊢
      split
      · rename_i e
        rw [if_pos e, nz_has] at hk'
        exact nz_no hk'
      · rename_i e
        rw [if_neg e] at hk'
        exact h.nz k hk'
    · show updC M.slots _ _ _ = ct0
      rw [updC_ne]
      · exact h.off u v p hu hv hp huv
      · intro e
        obtain ⟨_, e2, e3⟩ := place_inj hp hp7 hv hj e
        rw [e2, e3, hb] at huv
        exact Bool.noConfusion huv
  · have hs := act_slots c x y i j M h7
    exact ⟨by rw [hs]; exact h.nz, by rw [hs]; exact h.off, hpl, hok⟩
theorem Nrm.acts {c : Cd} (hg : Gk c) {x y : List Int} {i j : Nat} (hj : j ≤ y.length) (hb : inBd c i j = true) {M : Ms} (h : Nrm c x.length y.length M) : ∀ (l : List Qd), (∀ q ∈ l, q ∈ c.cell) → Nrm c x.length y.length (l.foldl (actB c x y i j) M) := by
  intro l
  induction l generalizing M with
  | nil => intro _; exact h
  | cons a l ih =>
    intro hl
    exact ih (h.act hg hj hb (hl a List.mem_cons_self)) fun q hq => hl q (List.mem_cons_of_mem _ hq)
theorem Nrm.cell {c : Cd} (hg : Gk c) {x y : List Int} {i j : Nat} (hj : j ≤ y.length) (hb : inBd c i j = true) {M : Ms} (h : Nrm c x.length y.length M) : Nrm c x.length y.length (cellM c x y i j M) := by
  have := h.acts hg hj hb c.cell fun _ h => h
  exact ⟨this.nz, this.off, this.pl, this.ok.regs, this.ok.slots⟩
/-- Off the cells that are run a plane has nothing. -/
theorem Nrm.at0 {c : Cd} {X Y : Nat} {M : Ms} (h : Nrm c X Y M) (p i j : Int) (hi : ¬ (0 ≤ i ∧ 0 ≤ j ∧ i ≤ X ∧ j ≤ Y ∧ c.lo ≤ j - i ∧ j - i ≤ c.hi)) : atB c.planes.toNat X Y M.slots p i j = ct0 := by
  by_cases e : (0 ≤ p ∧ p < c.planes.toNat) ∧ (0 ≤ i ∧ i ≤ X) ∧ (0 ≤ j ∧ j ≤ Y)
  · obtain ⟨⟨e1, e2⟩, ⟨e3, e4⟩, e5, e6⟩ := e
    obtain ⟨pn, rfl⟩ := Int.eq_ofNat_of_zero_le e1
    obtain ⟨u, rfl⟩ := Int.eq_ofNat_of_zero_le e3
    obtain ⟨v, rfl⟩ := Int.eq_ofNat_of_zero_le e5
    rw [atB_in (by omega) (by omega) (by omega)]
    refine h.off u v pn (by omega) (by omega) (by omega) ?_
    unfold inBd
    cases hd : (decide (c.lo ≤ (v : Int) - u) && decide ((v : Int) - u ≤ c.hi)) with
    | false => rfl
    | true =>
      rw [Bool.and_eq_true, decide_eq_true_eq, decide_eq_true_eq] at hd
      exact absurd ⟨e3, e5, e4, e6, hd.1, hd.2⟩ hi
  · exact at_off e
end Go.Proofs.YtnkfibahkmmnpaaGreat
namespace Go.Proofs.YtnkfibahkmmnpaaGreat
open Go.RowKit

def dcV (c : Ct) (m : Nat) : Value := if m = 0 then .bool c.has else if m = 1 then .int .i64 c.num else .int .i64 c.mask
def dlC (f : Nat → Ct) (n : Nat) : Array Value := Array.ofFn (n := n * 3) fun i => dcV (f (i.val / 3)) (i.val % 3)
theorem dlC_size (f : Nat → Ct) (n : Nat) : (dlC f n).size = n * 3 := by simp [dlC]
theorem dlC_get (f : Nat → Ct) (n : Nat) {k m : Nat} (hk : k < n) (hm : m < 3) : (dlC f n)[k * 3 + m]? = some (dcV (f k) m) := by
  have h1 : (k * 3 + m) / 3 = k := by omega
  have h2 : (k * 3 + m) % 3 = m := by omega
  have h3 : k * 3 + m < n * 3 := by omega
  simp [dlC, h1, h2, h3]
theorem dlC_ext {f g : Nat → Ct} {n : Nat} (h : ∀ k, k < n → f k = g k) : dlC f n = dlC g n := by
  apply Array.ext_getElem?
  intro j
  by_cases hj : j < n * 3
  · have e1 : (dlC f n)[j]? = some (dcV (f (j / 3)) (j % 3)) := by simp [dlC, hj]
    have e2 : (dlC g n)[j]? = some (dcV (g (j / 3)) (j % 3)) := by simp [dlC, hj]
    rw [e1, e2, h _ (by omega)]
  · rw [Array.getElem?_eq_none (by rw [dlC_size]; omega), Array.getElem?_eq_none (by rw [dlC_size]; omega)]
theorem dlC_set (f : Nat → Ct) (n k : Nat) (x : Ct) : (((dlC f n).setIfInBounds (k * 3) (.bool x.has)).setIfInBounds (k * 3 + 1) (.int .i64 x.num)).setIfInBounds (k * 3 + 2) (.int .i64 x.mask) = dlC (updC f k x) n := by
  apply Array.ext_getElem?
  intro j
  by_cases hj : j < n * 3
  · have e1 : (dlC f n)[j]? = some (dcV (f (j / 3)) (j % 3)) := by simp [dlC, hj]
    have e2 : (dlC (updC f k x) n)[j]? = some (dcV (updC f k x (j / 3)) (j % 3)) := by simp [dlC, hj]
    rw [e2]
    simp only [Array.getElem?_setIfInBounds, Array.size_setIfInBounds, dlC_size, e1]
    by_cases ek : j / 3 = k
    · rw [ek, updC_same]
      have : j % 3 = 0 ∨ j % 3 = 1 ∨ j % 3 = 2 := by omega
      rcases this with e | e | e
      · have : j = k * 3 := by omega
        subst this; simp [e, hj, dcV]
      · have : j = k * 3 + 1 := by omega
        subst this; simp [e, hj, dcV]
      · have : j = k * 3 + 2 := by omega
        subst this; simp [e, hj, dcV]
    · rw [updC_ne _ _ ek, if_neg (by omega), if_neg (by omega), if_neg (by omega)]
  · rw [Array.getElem?_eq_none (by simp [dlC_size]; omega), Array.getElem?_eq_none (by rw [dlC_size]; omega)]
theorem dlC_num (f : Nat → Ct) (n k : Nat) (z : Int) : (dlC f n).setIfInBounds (k * 3 + 1) (.int .i64 z) = dlC (updC f k ⟨(f k).has, (f k).mask, z⟩) n := by
  apply Array.ext_getElem?
  intro j
  by_cases hj : j < n * 3
  · have e1 : (dlC f n)[j]? = some (dcV (f (j / 3)) (j % 3)) := by simp [dlC, hj]
    have e2 : (dlC (updC f k ⟨(f k).has, (f k).mask, z⟩) n)[j]? = some (dcV (updC f k ⟨(f k).has, (f k).mask, z⟩ (j / 3)) (j % 3)) := by simp [dlC, hj]
    rw [e2]
    simp only [Array.getElem?_setIfInBounds, dlC_size, e1]
    by_cases ek : j / 3 = k
    · rw [ek, updC_same]
      have : j % 3 = 0 ∨ j % 3 = 1 ∨ j % 3 = 2 := by omega
      rcases this with e | e | e
      · have : j = k * 3 := by omega
        subst this; simp [e, dcV]
      · have : j = k * 3 + 1 := by omega
        subst this; simp [e, hj, dcV]
      · have : j = k * 3 + 2 := by omega
        subst this; simp [e, dcV]
    · rw [updC_ne _ _ ek, if_neg (by omega)]
  · rw [Array.getElem?_eq_none (by simp [dlC_size]; omega), Array.getElem?_eq_none (by rw [dlC_size]; omega)]
def bsC (f : Nat → Bool) (n : Nat) : Array Value := Array.ofFn (n := n) fun k => .bool (f k.val)
theorem bsC_get (f : Nat → Bool) (n : Nat) {k : Nat} (hk : k < n) : (bsC f n)[k]? = some (.bool (f k)) := by simp [bsC, hk]
theorem bsC_set (f : Nat → Bool) (n k : Nat) : (bsC f n).setIfInBounds k (.bool true) = bsC (fun q => if q = k then true else f q) n := by
  apply Array.ext_getElem?
  intro j
  by_cases hj : j < n
  · rw [Array.getElem?_setIfInBounds, bsC_get _ _ hj, bsC_get _ _ hj]
    by_cases e : k = j
    · subst e; simp [bsC, hj]
    · rw [if_neg e, if_neg (fun h => e h.symm)]
  · rw [Array.getElem?_eq_none (by simp [bsC]; omega), Array.getElem?_eq_none (by simp [bsC]; omega)]
/-- The blocks of a table: its box, the planes' rows, the registers. -/
structure Dp where
  b : Nat
  ob : Nat
  gb : Nat
  rb : Nat → Nat
  oa : Array Value
  oc : Nat
def tdCells (p : Dp) (c : Cd) (s : Ls) (sx sy : Sl) (P R : Nat) (e : En) (se : Sl) (st : Int) : Array Value :=
  #[.int .i64 c.letters, .int .i64 c.planes, .int .i64 c.regs, .int .i64 c.lo, .int .i64 c.hi, .int .i64 c.most, .slice s.t.a s.t.n s.t.c, .slice s.k.a s.k.n s.k.c, .slice s.i.a s.i.n s.i.c, .slice s.r.a s.r.n s.r.c,
    .slice sx.a sx.n sx.c, .slice sy.a sy.n sy.c, .slice (some ⟨p.ob, 0, none⟩) P p.oc, .bool e.found, .int .i64 e.score, .int .i64 e.i, .int .i64 e.j, .slice se.a se.n se.c, .int .i64 st, .slice (some ⟨p.gb, 0, none⟩) R R]
def EndsAt (B : Nat) (w : World) (se : Sl) (P : Nat) (e : En) : Prop := (e.found = false ∧ se = ⟨none, 0, 0⟩) ∨ (e.found = true ∧ ∃ eb, se = ⟨some ⟨eb, 0, none⟩, P, P⟩ ∧ B ≤ eb ∧ w.heap[eb]? = some (.cells (bsC e.planes P) 4 (0, 0)))
theorem EndsAt.of {B P : Nat} {w w' : World} {se : Sl} {e : En} (h : EndsAt B w se P e) (hk : ∀ eb : Nat, w.heap[eb]? = some (.cells (bsC e.planes P) 4 (0, 0)) → w'.heap[eb]? = w.heap[eb]?) : EndsAt B w' se P e := by
  rcases h with h | ⟨h1, eb, h2, h3, h4⟩
  · exact Or.inl h
  · exact Or.inr ⟨h1, eb, h2, h3, by rw [hk eb h4]; exact h4⟩
structure Dt (w0 w : World) (p : Dp) (c : Cd) (s : Ls) (sx sy : Sl) (x y : List Int) (se : Sl) (M : Ms) (st : Int) : Prop where
  box : w.heap[p.b]? = some (.cells (tdCells p c s sx sy c.planes.toNat c.regs.toNat M.ends se st) 61 (0, 0))
  out : w.heap[p.ob]? = some (.cells p.oa 57 (0, 0))
  oq : ∀ q, q < c.planes.toNat → p.oa[q]? = some (.slice (some ⟨p.rb q, 0, none⟩) ((x.length + 1) * (y.length + 1)) ((x.length + 1) * (y.length + 1)))
  row : ∀ q, q < c.planes.toNat → w.heap[p.rb q]? = some (.cells (dlC (fun k => M.slots (k * c.planes.toNat + q)) ((x.length + 1) * (y.length + 1))) 103 (0, 0))
  reg : w.heap[p.gb]? = some (.cells (dlC (fun k => nzC (M.regs k)) c.regs.toNat) 103 (0, 0))
  ends : EndsAt w0.heap.size w se c.planes.toNat M.ends
  inj : ∀ q r, q < c.planes.toNat → r < c.planes.toNat → p.rb q = p.rb r → q = r
  rg : ∀ q, q < c.planes.toNat → p.rb q ≠ p.gb
  cd : CdAt w0 c s
  hx : IntsAt w0 sx.a sx.n x
  hy : IntsAt w0 sy.a sy.n y
  low : Below w0.heap.size w0 w
  le : w0.heap.size ≤ p.b ∧ w0.heap.size ≤ p.gb ∧ ∀ q, q < c.planes.toNat → w0.heap.size ≤ p.rb q
theorem ty_ne {w : World} {a b : Nat} {A B : Array Value} {t u : TypeId} (h : w.heap[a]? = some (.cells A t (0, 0))) (h2 : w.heap[b]? = some (.cells B u (0, 0))) (ht : t ≠ u) : a ≠ b := fun e => by
  rw [e, h2] at h; injection h with h; injection h with _ h3; exact ht h3.symm
section
variable {w0 w w2 : World} {p : Dp} {c : Cd} {s : Ls} {sx sy se : Sl} {x y : List Int} {M : Ms} {st : Int}
theorem Dt.next (h : Dt w0 w p c s sx sy x y se M st) (hb : Below w.heap.size w w2) : Dt w0 w2 p c s sx sy x y se M st :=
  ⟨by rw [hb.block _ (lt_block h.box)]; exact h.box, by rw [hb.block _ (lt_block h.out)]; exact h.out, h.oq, fun q hq => by rw [hb.block _ (lt_block (h.row q hq))]; exact h.row q hq, by rw [hb.block _ (lt_block h.reg)]; exact h.reg,
   h.ends.of fun eb he => hb.block _ (lt_block he), h.inj, h.rg, h.cd, h.hx, h.hy, h.low.trans (hb.mono h.low.size), h.le⟩
theorem Dt.drew (h : Dt w0 w p c s sx sy x y se M st) : Dt w0 w.drew p c s sx sy x y se M st := h.next (Below.refl _ _).drew
theorem Dt.cell (h : Dt w0 w p c s sx sy x y se M st) (k : Nat) {v : Value} (hv : (tdCells p c s sx sy c.planes.toNat c.regs.toNat M.ends se st)[k]? = some v) : w.cell? ⟨p.b, k, none⟩ = some v := cell_block h.box k v hv
theorem Dt.fz (h : Dt w0 w p c s sx sy x y se M st) (k : Nat) : w.frozen? ⟨p.b, k, none⟩ = false := frozen_of_row w _ k _ _ h.box
/-- A box of the table is written. -/
theorem Dt.boxW (h : Dt w0 w p c s sx sy x y se M st) {e : En} {se2 : Sl} {st2 : Int} (hbx : w2.heap[p.b]? = some (.cells (tdCells p c s sx sy c.planes.toNat c.regs.toNat e se2 st2) 61 (0, 0))) (ho : ∀ k, k < w.heap.size → k ≠ p.b → w2.heap[k]? = w.heap[k]?) (he : EndsAt w0.heap.size w2 se2 c.planes.toNat e)
    (hl : Below w0.heap.size w0 w2) : Dt w0 w2 p c s sx sy x y se2 { M with ends := e } st2 :=
  ⟨hbx, by rw [ho _ (lt_block h.out) (ty_ne h.out h.box (by decide))]; exact h.out, h.oq, fun q hq => by rw [ho _ (lt_block (h.row q hq)) (ty_ne (h.row q hq) h.box (by decide))]; exact h.row q hq, by rw [ho _ (lt_block h.reg) (ty_ne h.reg h.box (by decide))]; exact h.reg,
   he, h.inj, h.rg, h.cd, h.hx, h.hy, hl, h.le⟩
/-- Registers are written. -/
theorem Dt.regW (h : Dt w0 w p c s sx sy x y se M st) {R : Nat → Ct} (hr : w2.heap[p.gb]? = some (.cells (dlC (fun k => nzC (R k)) c.regs.toNat) 103 (0, 0))) (ho : ∀ k, k < w.heap.size → k ≠ p.gb → w2.heap[k]? = w.heap[k]?) (hl : Below w0.heap.size w0 w2) : Dt w0 w2 p c s sx sy x y se { M with regs := R } st :=
  ⟨by rw [ho _ (lt_block h.box) (ty_ne h.box h.reg (by decide))]; exact h.box, by rw [ho _ (lt_block h.out) (ty_ne h.out h.reg (by decide))]; exact h.out, h.oq, fun q hq => by rw [ho _ (lt_block (h.row q hq)) (h.rg q hq)]; exact h.row q hq, hr,
   h.ends.of fun eb he => ho _ (lt_block he) (ty_ne he h.reg (by decide)), h.inj, h.rg, h.cd, h.hx, h.hy, hl, h.le⟩
/-- A plane's row is written. -/
theorem Dt.rowW (h : Dt w0 w p c s sx sy x y se M st) {F : Nat → Ct} {q0 : Nat} (hq0 : q0 < c.planes.toNat) (hr : w2.heap[p.rb q0]? = some (.cells (dlC (fun k => F (k * c.planes.toNat + q0)) ((x.length + 1) * (y.length + 1))) 103 (0, 0)))
    (hF : ∀ q k, q < c.planes.toNat → q ≠ q0 → F (k * c.planes.toNat + q) = M.slots (k * c.planes.toNat + q)) (ho : ∀ k, k < w.heap.size → k ≠ p.rb q0 → w2.heap[k]? = w.heap[k]?) (hl : Below w0.heap.size w0 w2) : Dt w0 w2 p c s sx sy x y se { M with slots := F } st :=
  ⟨by rw [ho _ (lt_block h.box) (ty_ne h.box (h.row q0 hq0) (by decide))]; exact h.box, by rw [ho _ (lt_block h.out) (ty_ne h.out (h.row q0 hq0) (by decide))]; exact h.out, h.oq,
   fun q hq => by
    by_cases e : q = q0
    · subst e; exact hr
    · rw [ho _ (lt_block (h.row q hq)) (fun e2 => e (h.inj q q0 hq hq0 e2)), h.row q hq]
      exact congrArg (fun A => some (Obj.cells A 103 (0, 0))) (dlC_ext fun k _ => (hF q k hq e).symm),
   by rw [ho _ (lt_block h.reg) (fun e => h.rg q0 hq0 e.symm)]; exact h.reg,
   h.ends.of fun eb he => ho _ (lt_block he) (ty_ne he (h.row q0 hq0) (by decide)), h.inj, h.rg, h.cd, h.hx, h.hy, hl, h.le⟩
def d3W (w : World) (b k : Nat) (v : Ct) : World := ((w.setCell ⟨b, k * 3, none⟩ (.bool v.has)).setCell ⟨b, k * 3 + 1, none⟩ (.int .i64 v.num)).setCell ⟨b, k * 3 + 2, none⟩ (.int .i64 v.mask)
theorem d3_same {w : World} {b n : Nat} {f : Nat → Ct} (h : w.heap[b]? = some (.cells (dlC f n) 103 (0, 0))) (k : Nat) (v : Ct) : (d3W w b k v).heap[b]? = some (.cells (dlC (updC f k v) n) 103 (0, 0)) := by
  have r0 := heap_setCell_same w b (k * 3) _ 103 (.bool v.has) h
  have r1 := heap_setCell_same _ b (k * 3 + 1) _ 103 (.int .i64 v.num) r0
  have r2 := heap_setCell_same _ b (k * 3 + 2) _ 103 (.int .i64 v.mask) r1
  unfold d3W
  rw [r2, dlC_set]
theorem d3_other (w : World) (b k : Nat) (v : Ct) {t : Nat} (ht : t ≠ b) : (d3W w b k v).heap[t]? = w.heap[t]? := by
  unfold d3W
  rw [Below.heap_setCell _ _ _ _ ht, Below.heap_setCell _ _ _ _ ht, Below.heap_setCell _ _ _ _ ht]
theorem d3_low {B : Nat} (h : Below B w0 w) {b : Nat} (hb : B ≤ b) (k : Nat) (v : Ct) : Below B w0 (d3W w b k v) :=
  ((h.setCell (p := ⟨b, _, none⟩) hb _).setCell (p := ⟨b, _, none⟩) hb _).setCell (p := ⟨b, _, none⟩) hb _
/-- A register is written: what has no number is nothing. -/
theorem Dt.setReg (h : Dt w0 w p c s sx sy x y se M st) (k : Nat) (u v : Ct) (hv : nzC u = v) : Dt w0 (d3W w p.gb k v) p c s sx sy x y se { M with regs := updC M.regs k u } st := by
  refine h.regW ?_ (fun t _ ht => d3_other w p.gb k v ht) (d3_low h.low h.le.2.1 k v)
  rw [d3_same h.reg k v]
  refine congrArg (fun A => some (Obj.cells A 103 (0, 0))) (dlC_ext fun r _ => ?_)
  unfold updC
  split
  · exact hv.symm
  · rfl
/-- A register's number is written. -/
theorem Dt.setNum (h : Dt w0 w p c s sx sy x y se M st) (k : Nat) (z : Int) (hh : (M.regs k).has = true) : Dt w0 (w.setCell ⟨p.gb, k * 3 + 1, none⟩ (.int .i64 z)) p c s sx sy x y se { M with regs := updC M.regs k ⟨(M.regs k).has, (M.regs k).mask, z⟩ } st := by
  refine h.regW ?_ (fun t _ ht => Below.heap_setCell _ _ _ _ ht) (h.low.setCell (p := ⟨p.gb, _, none⟩) h.le.2.1 _)
  rw [heap_setCell_same w p.gb (k * 3 + 1) _ 103 (.int .i64 z) h.reg, dlC_num]
  refine congrArg (fun A => some (Obj.cells A 103 (0, 0))) (dlC_ext fun r _ => ?_)
  unfold updC
  split
  · rw [nz_yes hh, nz_yes (by exact hh)]
  · rfl
/-- A plane is kept at a cell. -/
theorem Dt.keep (h : Dt w0 w p c s sx sy x y se M st) {q : Nat} (hq : q < c.planes.toNat) (k : Nat) (v : Ct) : Dt w0 (d3W w (p.rb q) k v) p c s sx sy x y se { M with slots := updC M.slots (k * c.planes.toNat + q) v } st := by
  refine h.rowW hq ?_ (fun r k' hr hne => ?_) (fun t _ ht => d3_other w (p.rb q) k v ht) (d3_low h.low (h.le.2.2 q hq) k v)
  · rw [d3_same (h.row q hq) k v]
    refine congrArg (fun A => some (Obj.cells A 103 (0, 0))) (dlC_ext fun r _ => ?_)
    unfold updC
    by_cases e : r = k
    · rw [if_pos e, if_pos (by rw [e])]
    · rw [if_neg e, if_neg]
      intro e2
      have hP : 0 < c.planes.toNat := by omega
      have : r * c.planes.toNat = k * c.planes.toNat := by omega
      exact e (Nat.eq_of_mul_eq_mul_right hP this)
  · refine updC_ne _ _ ?_
    intro e
    have e1 : (k' * c.planes.toNat + r) % c.planes.toNat = (k * c.planes.toNat + q) % c.planes.toNat := by rw [e]
    rw [Nat.mul_comm k', Nat.mul_comm k, Nat.mul_add_mod, Nat.mul_add_mod, Nat.mod_eq_of_lt hr, Nat.mod_eq_of_lt hq] at e1
    exact hne e1
end
end Go.Proofs.YtnkfibahkmmnpaaGreat
