/-
  Passes done to a recurrence.
-/
import Derived.Test.YtolehoibpnenlabPsC
import Derived.Test.YtolehoibpnenlabPsH
namespace Go.Proofs.Ytolehoibpnenlab
open Go.RowKit Go.Deep Go.Maps

/-- A recurrence whose lists are rows of the call's own. -/
structure RcO (w : World) (base : Nat) (x : Rc) (da : Option Addr) (dc : Nat) (sa : Option Addr) (sc : Nat) (ta : Option Addr) (tc : Nat) : Prop where
  defs : w.ownsRow base 34 4 (.slice da x.defs.length dc) x.defs.length (dfRow x.defs)
  subst : w.ownsRow base 3 1 (.slice sa x.subst.length sc) x.subst.length (itRow x.subst)
  states : StsOwn w base (.slice ta x.states.length tc) x.states
theorem RcO.below {w w' : World} {base : Nat} {x : Rc} {da : Option Addr} {dc : Nat} {sa : Option Addr} {sc : Nat} {ta : Option Addr} {tc : Nat} (h : RcO w base x da dc sa sc ta tc) (hb : Below w.heap.size w w') : RcO w' base x da dc sa sc ta tc :=
  ⟨owned_below h.defs hb, owned_below h.subst hb, h.states.below hb⟩
theorem StsOwn.base' {w : World} {b b' : Nat} {v : Value} {l : List St} (h : StsOwn w b v l) (hb : b' ≤ b) : StsOwn w b' v l := by
  obtain ⟨sl, h1, h2⟩ := h.rows
  exact ⟨sl, owned_base h1 hb, h2.1, fun i r s hi hs => ⟨(h2.2 i r s hi hs).1, (h2.2 i r s hi hs).2.1, (h2.2 i r s hi hs).2.2.1, owned_base (h2.2 i r s hi hs).2.2.2 hb⟩⟩
theorem WkAt.rcO {w : World} {base wb : Nat} {x : Rc} {vs : List Int} {y : Ly} (h : WkAt w base wb x vs y) {b : Nat} (hb : b ≤ base) : RcO w b x y.da y.dc y.sa y.sc y.ta y.tc :=
  ⟨owned_base h.defs hb, owned_base h.subst hb, (StsOwn.mk ⟨y.sl, h.states, h.rows⟩).base' hb⟩
def zeroR : Array Value := #[.int .i64 0, .slice none 0 0, .slice none 0 0, .int .i64 0, .int .i64 0, .int .i64 0, .int .i64 0, .bool false, .int .i64 0, .int .i64 0, .slice none 0 0]
def PassPost (ok : Bool) (x : Rc) (w : World) (e : Ending) (w' : World) : Prop :=
  if ok then ∃ da dc sa sc ta tc, e = .returned (.tuple #[.agg (rcCells x da x.defs.length dc sa x.subst.length sc ta x.states.length tc), .int .i64 0]) ∧ Below w.heap.size w w' ∧ RcO w' w.heap.size x da dc sa sc ta tc
  else e = .returned (.tuple #[.agg zeroR, .int .i64 120]) ∧ Below w.heap.size w w'
abbrev Ps := Nat × (Rc → List Int → Rc × List Int)
def runP (l : List Ps) (x : Rc) (vs : List Int) : Rc × List Int := l.foldl (fun s p => p.2 s.1 s.2) (x, vs)
/-- What a pass does to a work. -/
def PassOk (p : Ps) : Prop := (∀ args W, (callFunc p.1 args).run Try.prog W = .ok (.enter p.1 args) W) ∧
  (∀ (w : World) (base wb : Nat) (x : Rc) (vs : List Int) (y : Ly), WkAt w base wb x vs y → rightR x = true → (valsB x.defs).1 = vs →
    Calls Try.prog p.1 #[.pointer (some ⟨wb, 0, none⟩)] w fun e w' => e = .returned (.tuple #[]) ∧ (∃ y', WkAt w' base wb (p.2 x vs).1 (p.2 x vs).2 y') ∧ Below base w w') ∧
  (∀ (x : Rc) (vs : List Int), rightR x = true → (valsB x.defs).1 = vs → rightR (p.2 x vs).1 = true ∧ (valsB (p.2 x vs).1.defs).1 = (p.2 x vs).2)
theorem runP_ok : ∀ (l : List Ps) (x : Rc) (vs : List Int), (∀ p ∈ l, PassOk p) → rightR x = true → (valsB x.defs).1 = vs → rightR (runP l x vs).1 = true ∧ (valsB (runP l x vs).1.defs).1 = (runP l x vs).2
  | [], _, _, _, h1, h2 => ⟨h1, h2⟩
  | p :: r, x, vs, h, h1, h2 => by
    obtain ⟨q1, q2⟩ := (h p (by simp)).2.2 x vs h1 h2
    exact runP_ok r _ _ (fun z hz => h z (List.mem_cons_of_mem _ hz)) q1 q2
theorem runP_snoc (l : List Ps) (p : Ps) (x : Rc) (vs : List Int) : runP (l ++ [p]) x vs = p.2 (runP l x vs).1 (runP l x vs).2 := by
  simp [runP, List.foldl_append]
def fnV (p : Ps) : Value := .func (.func p.1) #[] #[]
/-- The box, the result. -/
structure D5 (w : World) (cs : Array Value) (wr : World) : Prop where
  low : Below w.heap.size w wr
  box : wr.heap[w.heap.size]? = some (.cells cs 26 (0, 0))
  res : wr.heap[w.heap.size + 1]? = some (.cells #[.int .i64 0, .slice none 0 0, .slice none 0 0, .int .i64 0, .int .i64 0, .int .i64 0, .int .i64 0, .bool false, .int .i64 0, .int .i64 0, .slice none 0 0] 26 (0, 0))
theorem D5.start (w : World) (cs : Array Value) : D5 w cs ((w.alloc (.cells cs 26)).alloc (.cells #[.int .i64 0, .slice none 0 0, .slice none 0 0, .int .i64 0, .int .i64 0, .int .i64 0, .int .i64 0, .bool false, .int .i64 0, .int .i64 0, .slice none 0 0] 26)) := by
  refine ⟨((Below.refl _ _).alloc (Nat.le_refl _) _).alloc (by simp) _, ?_, ?_⟩
  · have hb := (Below.refl (w.alloc (.cells cs 26)).heap.size (w.alloc (.cells cs 26))).alloc (Nat.le_refl _) (.cells #[.int .i64 0, .slice none 0 0, .slice none 0 0, .int .i64 0, .int .i64 0, .int .i64 0, .int .i64 0, .bool false, .int .i64 0, .int .i64 0, .slice none 0 0] 26)
    rw [hb.block _ (by simp)]
    exact heap_alloc_new w _
  · have h := heap_alloc_new (w.alloc (.cells cs 26)) (.cells #[.int .i64 0, .slice none 0 0, .slice none 0 0, .int .i64 0, .int .i64 0, .int .i64 0, .int .i64 0, .bool false, .int .i64 0, .int .i64 0, .slice none 0 0] 26)
    rwa [show (w.alloc (.cells cs 26)).heap.size = w.heap.size + 1 by simp] at h
theorem D5.next {w : World} {cs : Array Value} {wr w2 : World} (h : D5 w cs wr) {B : Nat} (hb : Below B wr w2) (hB : w.heap.size + 2 ≤ B) : D5 w cs w2 :=
  ⟨h.low.trans (hb.mono (by omega)), by rw [hb.block _ (by omega)]; exact h.box, by rw [hb.block _ (by omega)]; exact h.res⟩
theorem D5.sz {w : World} {cs : Array Value} {wr : World} (h : D5 w cs wr) : w.heap.size + 2 ≤ wr.heap.size := lt_block h.res
theorem below_r {w W : World} (h : Below w.heap.size w W) (v0 v1 v2 v3 v4 v5 v6 v7 v8 v9 v10 : Value) : Below w.heap.size w (((((((((((W.setCell ⟨w.heap.size + 1, 0, none⟩ v0).setCell ⟨w.heap.size + 1, 1, none⟩ v1).setCell ⟨w.heap.size + 1, 2, none⟩ v2).setCell ⟨w.heap.size + 1, 3, none⟩ v3).setCell ⟨w.heap.size + 1, 4, none⟩ v4).setCell ⟨w.heap.size + 1, 5, none⟩ v5).setCell ⟨w.heap.size + 1, 6, none⟩ v6).setCell ⟨w.heap.size + 1, 7, none⟩ v7).setCell ⟨w.heap.size + 1, 8, none⟩ v8).setCell ⟨w.heap.size + 1, 9, none⟩ v9).setCell ⟨w.heap.size + 1, 10, none⟩ v10) :=
  ((((((((((h.setCell (Nat.le_succ _) _).setCell (Nat.le_succ _) _).setCell (Nat.le_succ _) _).setCell (Nat.le_succ _) _).setCell (Nat.le_succ _) _).setCell (Nat.le_succ _) _).setCell (Nat.le_succ _) _).setCell (Nat.le_succ _) _).setCell (Nat.le_succ _) _).setCell (Nat.le_succ _) _).setCell (Nat.le_succ _) _
theorem grown_r {w W : World} (v0 v1 v2 v3 v4 v5 v6 v7 v8 v9 v10 : Value) : W.grownBy (((((((((((W.setCell ⟨w.heap.size + 1, 0, none⟩ v0).setCell ⟨w.heap.size + 1, 1, none⟩ v1).setCell ⟨w.heap.size + 1, 2, none⟩ v2).setCell ⟨w.heap.size + 1, 3, none⟩ v3).setCell ⟨w.heap.size + 1, 4, none⟩ v4).setCell ⟨w.heap.size + 1, 5, none⟩ v5).setCell ⟨w.heap.size + 1, 6, none⟩ v6).setCell ⟨w.heap.size + 1, 7, none⟩ v7).setCell ⟨w.heap.size + 1, 8, none⟩ v8).setCell ⟨w.heap.size + 1, 9, none⟩ v9).setCell ⟨w.heap.size + 1, 10, none⟩ v10) (some (w.heap.size + 1)) :=
  grown_trans (grown_trans (grown_trans (grown_trans (grown_trans (grown_trans (grown_trans (grown_trans (grown_trans (grown_trans (grown_set _ _ _ _) (grown_set _ _ _ _)) (grown_set _ _ _ _)) (grown_set _ _ _ _)) (grown_set _ _ _ _)) (grown_set _ _ _ _)) (grown_set _ _ _ _)) (grown_set _ _ _ _)) (grown_set _ _ _ _)) (grown_set _ _ _ _)) (grown_set _ _ _ _)
theorem StsOwn.by {w w' : World} {base : Nat} {v : Value} {l : List St} {g : Nat} {cs : Array Value} (h : StsOwn w base v l) (hb : w.heap[g]? = some (.cells cs 26 (0, 0))) (hg : w.grownBy w' (some g)) : StsOwn w' base v l := by
  obtain ⟨sl, h1, h2⟩ := h.rows
  exact ⟨sl, own_kind h1 hb (by decide) hg, h2.1, fun i r s hi hs => ⟨(h2.2 i r s hi hs).1, (h2.2 i r s hi hs).2.1, (h2.2 i r s hi hs).2.2.1, own_kind (h2.2 i r s hi hs).2.2.2 hb (by decide) hg⟩⟩
theorem RcO.by {w w' : World} {base : Nat} {x : Rc} {da : Option Addr} {dc : Nat} {sa : Option Addr} {sc : Nat} {ta : Option Addr} {tc : Nat} {g : Nat} {cs : Array Value} (h : RcO w base x da dc sa sc ta tc) (hb : w.heap[g]? = some (.cells cs 26 (0, 0))) (hg : w.grownBy w' (some g)) : RcO w' base x da dc sa sc ta tc :=
  ⟨own_kind h.defs hb (by decide) hg, own_kind h.subst hb (by decide) hg, h.states.by hb hg⟩
set_option maxRecDepth 20000 in
set_option maxHeartbeats 8000000 in
theorem done_bad (x : Rc) (da : Option Addr) (dn dc : Nat) (sa : Option Addr) (sn sc : Nat) (ta : Option Addr) (tn tc : Nat) (pg m pc : Nat) (w : World) (h : RcAt w x da dn sa sn ta tn) (hr : rightR x = false) (x2 : Rc) :
    Calls Try.prog 12 #[.agg (rcCells x da dn dc sa sn sc ta tn tc), .slice (some ⟨pg, 0, none⟩) m pc] w fun e w' => PassPost false x2 w e w' := by
  have hres : Try.f12.results = #[.cell 4 26, .tmp 5] := by kernel_rfl
  have HB0 : Hid (D5 w (rcCells x da dn dc sa sn sc ta tn tc) ((w.alloc (.cells (rcCells x da dn dc sa sn sc ta tn tc) 26)).alloc (.cells #[.int .i64 0, .slice none 0 0, .slice none 0 0, .int .i64 0, .int .i64 0, .int .i64 0, .int .i64 0, .bool false, .int .i64 0, .int .i64 0, .slice none 0 0] 26))) := D5.start _ _
  have HC : Hid (∀ W, Below w.heap.size w W → Calls Try.prog 16 #[.agg (rcCells x da dn dc sa sn sc ta tn tc)] W fun e w' => e = .returned (.bool (rightR x)) ∧ Below W.heap.size W w') := fun W hW => rightR_calls x da dn dc sa sn sc ta tn tc W (h.below hW)
  rw [hr] at HC
  clear h hr
  unfold rcCells at HB0 HC ⊢
  go_enter Try.func12, Try.ntmps12
  go_wp2_with fail
  refine (HC.out _ HB0.out.low).mono ?_
  rintro e w1 ⟨rfl, hb1⟩
  have HB1 : Hid (D5 w #[.int .i64 x.letters, .slice da dn dc, .slice sa sn sc, .int .i64 x.beg, .int .i64 x.fin, .int .i64 x.front, .int .i64 x.back, .bool x.banded, .int .i64 x.lo, .int .i64 x.hi, .slice ta tn tc] w1) := HB0.out.next hb1 (by simp)
  clear hb1 HB0 HC
  have r0 : w1.cell? ⟨w.heap.size + 1, 0, none⟩ = some (.int .i64 0) := blk HB1.out.res rfl
  have r1 : w1.cell? ⟨w.heap.size + 1, 1, none⟩ = some (.slice none 0 0) := blk HB1.out.res rfl
  have r2 : w1.cell? ⟨w.heap.size + 1, 2, none⟩ = some (.slice none 0 0) := blk HB1.out.res rfl
  have r3 : w1.cell? ⟨w.heap.size + 1, 3, none⟩ = some (.int .i64 0) := blk HB1.out.res rfl
  have r4 : w1.cell? ⟨w.heap.size + 1, 4, none⟩ = some (.int .i64 0) := blk HB1.out.res rfl
  have r5 : w1.cell? ⟨w.heap.size + 1, 5, none⟩ = some (.int .i64 0) := blk HB1.out.res rfl
  have r6 : w1.cell? ⟨w.heap.size + 1, 6, none⟩ = some (.int .i64 0) := blk HB1.out.res rfl
  have r7 : w1.cell? ⟨w.heap.size + 1, 7, none⟩ = some (.bool false) := blk HB1.out.res rfl
  have r8 : w1.cell? ⟨w.heap.size + 1, 8, none⟩ = some (.int .i64 0) := blk HB1.out.res rfl
  have r9 : w1.cell? ⟨w.heap.size + 1, 9, none⟩ = some (.int .i64 0) := blk HB1.out.res rfl
  have r10 : w1.cell? ⟨w.heap.size + 1, 10, none⟩ = some (.slice none 0 0) := blk HB1.out.res rfl
  have rf : ∀ i, w1.frozen? ⟨w.heap.size + 1, i, none⟩ = false := fun i => frozen_of_row w1 _ i _ _ HB1.out.res
  go_wp2
  refine bodyPost_ret (v := .tuple #[.agg #[.int .i64 0, .slice none 0 0, .slice none 0 0, .int .i64 0, .int .i64 0, .int .i64 0, .int .i64 0, .bool false, .int .i64 0, .int .i64 0, .slice none 0 0], .int .i64 120]) ?_ rfl ?_
  · simp only [results, hres]
    go_simp
  · refine ⟨rfl, ?_⟩
    exact below_r HB1.out.low _ _ _ _ _ _ _ _ _ _ _
set_option maxRecDepth 20000 in
set_option maxHeartbeats 8000000 in
theorem done_calls (l : List Ps) (x : Rc) (da : Option Addr) (dn dc : Nat) (sa : Option Addr) (sn sc : Nat) (ta : Option Addr) (tn tc : Nat) (pg m pc : Nat) (w : World) (h : RcAt w x da dn sa sn ta tn) (hm : l.length = m) (hm4 : m ≤ 10) (hl : ∀ p ∈ l, PassOk p)
    (hp : ∀ (k : Nat) (p : Ps), l[k]? = some p → w.cell? ⟨pg, k, none⟩ = some (fnV p)) :
    Calls Try.prog 12 #[.agg (rcCells x da dn dc sa sn sc ta tn tc), .slice (some ⟨pg, 0, none⟩) m pc] w fun e w' => PassPost (rightR x) (runP l x (valsB x.defs).1).1 w e w' := by
  have hres : Try.f12.results = #[.cell 4 26, .tmp 5] := by kernel_rfl
  have HR : Hid (RcAt w x da dn sa sn ta tn) := h
  have HL : Hid (l.length = m ∧ (∀ p ∈ l, PassOk p) ∧ ∀ (k : Nat) (p : Ps), l[k]? = some p → w.cell? ⟨pg, k, none⟩ = some (fnV p)) := ⟨hm, hl, hp⟩
  have HB0 : Hid (D5 w (rcCells x da dn dc sa sn sc ta tn tc) ((w.alloc (.cells (rcCells x da dn dc sa sn sc ta tn tc) 26)).alloc (.cells #[.int .i64 0, .slice none 0 0, .slice none 0 0, .int .i64 0, .int .i64 0, .int .i64 0, .int .i64 0, .bool false, .int .i64 0, .int .i64 0, .slice none 0 0] 26))) := D5.start _ _
  have HC : Hid (∀ W, Below w.heap.size w W → Calls Try.prog 16 #[.agg (rcCells x da dn dc sa sn sc ta tn tc)] W fun e w' => e = .returned (.bool (rightR x)) ∧ Below W.heap.size W w') := fun W hW => rightR_calls x da dn dc sa sn sc ta tn tc W (h.below hW)
  have HBe : Hid (∀ W, rightR x = true → Below w.heap.size w W → Calls Try.prog 17 #[.agg (rcCells x da dn dc sa sn sc ta tn tc)] W fun e w' => ∃ wb y, e = .returned (.pointer (some ⟨wb, 0, none⟩)) ∧ Below W.heap.size W w' ∧ WkAt w' W.heap.size wb x (valsB x.defs).1 y) := fun W hr hW => begun_calls x da dn dc sa sn sc ta tn tc W (h.below hW) hr
  clear h hm hl hp
  obtain ⟨ok, hok⟩ : ∃ ok, rightR x = ok := ⟨_, rfl⟩
  obtain ⟨x2, hx2⟩ : ∃ x2, (runP l x (valsB x.defs).1).1 = x2 := ⟨_, rfl⟩
  have HOK : Hid (rightR x = ok) := hok
  have HX2 : Hid ((runP l x (valsB x.defs).1).1 = x2) := hx2
  rw [hok] at HC ⊢
  rw [hx2]
  clear hok hx2
  unfold rcCells at HB0 HC HBe ⊢
  go_enter Try.func12, Try.ntmps12
  go_wp2_with fail
  refine (HC.out _ HB0.out.low).mono ?_
  rintro e w1 ⟨rfl, hb1⟩
  have HB1 : Hid (D5 w #[.int .i64 x.letters, .slice da dn dc, .slice sa sn sc, .int .i64 x.beg, .int .i64 x.fin, .int .i64 x.front, .int .i64 x.back, .bool x.banded, .int .i64 x.lo, .int .i64 x.hi, .slice ta tn tc] w1) := HB0.out.next hb1 (by simp)
  clear hb1 HB0 HC
  cases ok with
  | false =>
    have r0 : w1.cell? ⟨w.heap.size + 1, 0, none⟩ = some (.int .i64 0) := blk HB1.out.res rfl
    have r1 : w1.cell? ⟨w.heap.size + 1, 1, none⟩ = some (.slice none 0 0) := blk HB1.out.res rfl
    have r2 : w1.cell? ⟨w.heap.size + 1, 2, none⟩ = some (.slice none 0 0) := blk HB1.out.res rfl
    have r3 : w1.cell? ⟨w.heap.size + 1, 3, none⟩ = some (.int .i64 0) := blk HB1.out.res rfl
    have r4 : w1.cell? ⟨w.heap.size + 1, 4, none⟩ = some (.int .i64 0) := blk HB1.out.res rfl
    have r5 : w1.cell? ⟨w.heap.size + 1, 5, none⟩ = some (.int .i64 0) := blk HB1.out.res rfl
    have r6 : w1.cell? ⟨w.heap.size + 1, 6, none⟩ = some (.int .i64 0) := blk HB1.out.res rfl
    have r7 : w1.cell? ⟨w.heap.size + 1, 7, none⟩ = some (.bool false) := blk HB1.out.res rfl
    have r8 : w1.cell? ⟨w.heap.size + 1, 8, none⟩ = some (.int .i64 0) := blk HB1.out.res rfl
    have r9 : w1.cell? ⟨w.heap.size + 1, 9, none⟩ = some (.int .i64 0) := blk HB1.out.res rfl
    have r10 : w1.cell? ⟨w.heap.size + 1, 10, none⟩ = some (.slice none 0 0) := blk HB1.out.res rfl
    have rf : ∀ i, w1.frozen? ⟨w.heap.size + 1, i, none⟩ = false := fun i => frozen_of_row w1 _ i _ _ HB1.out.res
    go_wp2
    refine bodyPost_ret (v := .tuple #[.agg #[.int .i64 0, .slice none 0 0, .slice none 0 0, .int .i64 0, .int .i64 0, .int .i64 0, .int .i64 0, .bool false, .int .i64 0, .int .i64 0, .slice none 0 0], .int .i64 120]) ?_ rfl ?_
    · simp only [results, hres]
      go_simp
    · refine ⟨rfl, ?_⟩
      exact below_r HB1.out.low _ _ _ _ _ _ _ _ _ _ _
  | true =>
    have c0 : w1.cell? ⟨w.heap.size, 0, none⟩ = some (.int .i64 x.letters) := blk HB1.out.box rfl
    have c1 : w1.cell? ⟨w.heap.size, 1, none⟩ = some (.slice da dn dc) := blk HB1.out.box rfl
    have c2 : w1.cell? ⟨w.heap.size, 2, none⟩ = some (.slice sa sn sc) := blk HB1.out.box rfl
    have c3 : w1.cell? ⟨w.heap.size, 3, none⟩ = some (.int .i64 x.beg) := blk HB1.out.box rfl
    have c4 : w1.cell? ⟨w.heap.size, 4, none⟩ = some (.int .i64 x.fin) := blk HB1.out.box rfl
    have c5 : w1.cell? ⟨w.heap.size, 5, none⟩ = some (.int .i64 x.front) := blk HB1.out.box rfl
    have c6 : w1.cell? ⟨w.heap.size, 6, none⟩ = some (.int .i64 x.back) := blk HB1.out.box rfl
    have c7 : w1.cell? ⟨w.heap.size, 7, none⟩ = some (.bool x.banded) := blk HB1.out.box rfl
    have c8 : w1.cell? ⟨w.heap.size, 8, none⟩ = some (.int .i64 x.lo) := blk HB1.out.box rfl
    have c9 : w1.cell? ⟨w.heap.size, 9, none⟩ = some (.int .i64 x.hi) := blk HB1.out.box rfl
    have c10 : w1.cell? ⟨w.heap.size, 10, none⟩ = some (.slice ta tn tc) := blk HB1.out.box rfl
    go_wp2_with fail
    refine (HBe.out w1 HOK.out HB1.out.low).mono ?_
    rintro e w2 ⟨wb, y, rfl, hb2, hwk⟩
    have HB2 : Hid (D5 w #[.int .i64 x.letters, .slice da dn dc, .slice sa sn sc, .int .i64 x.beg, .int .i64 x.fin, .int .i64 x.front, .int .i64 x.back, .bool x.banded, .int .i64 x.lo, .int .i64 x.hi, .slice ta tn tc] w2 ∧ Below w1.heap.size w1 w2 ∧ ∃ y', WkAt w2 w1.heap.size wb (runP (l.take 0) x (valsB x.defs).1).1 (runP (l.take 0) x (valsB x.defs).1).2 y') := ⟨HB1.out.next hb2 HB1.out.sz, hb2, y, hwk⟩
    clear hb2 hwk HBe c0 c1 c2 c3 c4 c5 c6 c7 c8 c9 c10
    go_wp2
    go_loopg [8, 17] m (fun q _ iv wr => ∃ (k : Nat), k + q = m ∧ iv = .int .i64 k ∧ Hid (D5 w #[.int .i64 x.letters, .slice da dn dc, .slice sa sn sc, .int .i64 x.beg, .int .i64 x.fin, .int .i64 x.front, .int .i64 x.back, .bool x.banded, .int .i64 x.lo, .int .i64 x.hi, .slice ta tn tc] wr ∧ Below w1.heap.size w1 wr ∧ ∃ y', WkAt wr w1.heap.size wb (runP (l.take k) x (valsB x.defs).1).1 (runP (l.take k) x (valsB x.defs).1).2 y'))
    case atStart => exact ⟨0, by omega, rfl, HB2.out⟩
    case round =>
      clear HB2
      obtain ⟨k, hkq, rfl, HB2⟩ := hrel
      by_cases hlt : k < m
      · obtain ⟨p, hpk⟩ : ∃ p, l[k]? = some p := ⟨l[k]'(by rw [HL.out.1]; exact hlt), List.getElem?_eq_getElem _⟩
        have hpo := HL.out.2.1 p (List.mem_of_getElem? hpk)
        have hcp : wr.cell? ⟨pg, k, none⟩ = some (.func (.func p.1) #[] #[]) := by
          rw [HB2.out.1.low.cell (World.block_lt_of_cell? w _ (HL.out.2.2 k p hpk))]; exact HL.out.2.2 k p hpk
        have hent := hpo.1
        obtain ⟨q1, q2⟩ := runP_ok (l.take k) x (valsB x.defs).1 (fun z hz => HL.out.2.1 z (List.mem_of_mem_take hz)) HOK.out rfl
        obtain ⟨y2, hy2⟩ := HB2.out.2.2
        have HCP : Hid (Calls Try.prog p.1 #[.pointer (some ⟨wb, 0, none⟩)] wr fun e w' => e = .returned (.tuple #[]) ∧ (∃ y', WkAt w' w1.heap.size wb (runP (l.take (k + 1)) x (valsB x.defs).1).1 (runP (l.take (k + 1)) x (valsB x.defs).1).2 y') ∧ Below w1.heap.size wr w') := by
          have := hpo.2.1 wr w1.heap.size wb _ _ y2 hy2 q1 q2
          obtain ⟨e1, e2⟩ := List.getElem?_eq_some_iff.1 hpk
          rw [List.take_succ_eq_append_getElem e1, e2, runP_snoc]
          exact this
        obtain ⟨pf, hpf⟩ : ∃ pf, p.1 = pf := ⟨_, rfl⟩
        rw [hpf] at hcp hent HCP
        clear hpk hpo q1 q2 hy2 hpf
        have hk0 : decide ((k : Int) < (m : Int)) = true := by simp; omega
        go_wp2_with fail
        refine HCP.out.mono ?_
        rintro e w3 ⟨rfl, hy3, hb3⟩
        have HN : Hid (D5 w #[.int .i64 x.letters, .slice da dn dc, .slice sa sn sc, .int .i64 x.beg, .int .i64 x.fin, .int .i64 x.front, .int .i64 x.back, .bool x.banded, .int .i64 x.lo, .int .i64 x.hi, .slice ta tn tc] w3 ∧ Below w1.heap.size w1 w3 ∧ ∃ y', WkAt w3 w1.heap.size wb (runP (l.take (k + 1)) x (valsB x.defs).1).1 (runP (l.take (k + 1)) x (valsB x.defs).1).2 y') := ⟨HB2.out.1.next hb3 HB1.out.sz, HB2.out.2.1.trans hb3, hy3⟩
        clear hy3 hb3 HCP HB2 hent hcp
        go_wp2
        go_roundg (gk - 1)
        case measure => omega
        case rel => exact ⟨k + 1, by omega, by go_num, HN.out⟩
      · have hkm : k = m := by omega
        have hk0 : decide ((k : Int) < (m : Int)) = false := by simp; omega
        obtain ⟨y2, hy2⟩ := HB2.out.2.2
        rw [List.take_of_length_le (by rw [HL.out.1]; omega), HX2.out] at hy2
        have HY : Hid (WkAt wr w1.heap.size wb x2 (runP l x (valsB x.defs).1).2 y2) := hy2
        have hbb := hy2.box
        unfold wkCells at hbb
        have b0 : wr.cell? ⟨wb, 0, none⟩ = some (.int .i64 x2.letters) := blk hbb rfl
        have b1 : wr.cell? ⟨wb, 1, none⟩ = some (.slice y2.da x2.defs.length y2.dc) := blk hbb rfl
        have b2 : wr.cell? ⟨wb, 2, none⟩ = some (.slice y2.sa x2.subst.length y2.sc) := blk hbb rfl
        have b3 : wr.cell? ⟨wb, 3, none⟩ = some (.int .i64 x2.beg) := blk hbb rfl
        have b4 : wr.cell? ⟨wb, 4, none⟩ = some (.int .i64 x2.fin) := blk hbb rfl
        have b5 : wr.cell? ⟨wb, 5, none⟩ = some (.int .i64 x2.front) := blk hbb rfl
        have b6 : wr.cell? ⟨wb, 6, none⟩ = some (.int .i64 x2.back) := blk hbb rfl
        have b7 : wr.cell? ⟨wb, 7, none⟩ = some (.bool x2.banded) := blk hbb rfl
        have b8 : wr.cell? ⟨wb, 8, none⟩ = some (.int .i64 x2.lo) := blk hbb rfl
        have b9 : wr.cell? ⟨wb, 9, none⟩ = some (.int .i64 x2.hi) := blk hbb rfl
        have b10 : wr.cell? ⟨wb, 10, none⟩ = some (.slice y2.ta x2.states.length y2.tc) := blk hbb rfl
        have r0 : wr.cell? ⟨w.heap.size + 1, 0, none⟩ = some (.int .i64 0) := blk HB2.out.1.res rfl
        have r1 : wr.cell? ⟨w.heap.size + 1, 1, none⟩ = some (.slice none 0 0) := blk HB2.out.1.res rfl
        have r2 : wr.cell? ⟨w.heap.size + 1, 2, none⟩ = some (.slice none 0 0) := blk HB2.out.1.res rfl
        have r3 : wr.cell? ⟨w.heap.size + 1, 3, none⟩ = some (.int .i64 0) := blk HB2.out.1.res rfl
        have r4 : wr.cell? ⟨w.heap.size + 1, 4, none⟩ = some (.int .i64 0) := blk HB2.out.1.res rfl
        have r5 : wr.cell? ⟨w.heap.size + 1, 5, none⟩ = some (.int .i64 0) := blk HB2.out.1.res rfl
        have r6 : wr.cell? ⟨w.heap.size + 1, 6, none⟩ = some (.int .i64 0) := blk HB2.out.1.res rfl
        have r7 : wr.cell? ⟨w.heap.size + 1, 7, none⟩ = some (.bool false) := blk HB2.out.1.res rfl
        have r8 : wr.cell? ⟨w.heap.size + 1, 8, none⟩ = some (.int .i64 0) := blk HB2.out.1.res rfl
        have r9 : wr.cell? ⟨w.heap.size + 1, 9, none⟩ = some (.int .i64 0) := blk HB2.out.1.res rfl
        have r10 : wr.cell? ⟨w.heap.size + 1, 10, none⟩ = some (.slice none 0 0) := blk HB2.out.1.res rfl
        have rf : ∀ i, wr.frozen? ⟨w.heap.size + 1, i, none⟩ = false := fun i => frozen_of_row wr _ i _ _ HB2.out.1.res
        clear hbb hkm hy2
        go_wp2
        refine bodyPost_ret (v := .tuple #[.agg #[.int .i64 x2.letters, .slice y2.da x2.defs.length y2.dc, .slice y2.sa x2.subst.length y2.sc, .int .i64 x2.beg, .int .i64 x2.fin, .int .i64 x2.front, .int .i64 x2.back, .bool x2.banded, .int .i64 x2.lo, .int .i64 x2.hi, .slice y2.ta x2.states.length y2.tc], .int .i64 0]) ?_ rfl ?_
        · simp only [results, hres]
          go_simp
        · refine ⟨y2.da, y2.dc, y2.sa, y2.sc, y2.ta, y2.tc, rfl, below_r HB2.out.1.low _ _ _ _ _ _ _ _ _ _ _, ?_⟩
          exact (HY.out.rcO (by have := HB1.out.sz; omega)).by HB2.out.1.res (grown_r _ _ _ _ _ _ _ _ _ _ _)
end Go.Proofs.Ytolehoibpnenlab
