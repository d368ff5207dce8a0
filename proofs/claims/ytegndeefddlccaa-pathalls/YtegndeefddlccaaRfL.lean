/-
  A range over a function, by blocks: what a round may change are blocks of the caller's own and new ones; what the function that is ranged over changes are blocks that it has made itself. A law of the statement for a body that never leaves.
-/
import Derived.RangeFuncCalls
import Derived.RangeFuncBound
import Derived.RangeFuncLeaves
import Derived.RangeFuncNested
import Derived.Below
namespace Go.Proofs.Ytegndeefddlccaa
open Go.RowKit

/-- As it was, but for some blocks. -/
structure Fr (O : Nat → Prop) (w w' : World) : Prop where
  os : w'.os = w.os
  tape : w'.tape = w.tape
  output : w'.output = w.output
  size : w.heap.size ≤ w'.heap.size
  block : ∀ g, g < w.heap.size → ¬ O g → w'.heap[g]? = w.heap[g]?
theorem Fr.refl (O : Nat → Prop) (w : World) : Fr O w w := ⟨rfl, rfl, rfl, Nat.le_refl _, fun _ _ _ => rfl⟩
theorem Fr.trans {O O' : Nat → Prop} {w w1 w2 : World} (h : Fr O w w1) (k : Fr O' w1 w2) (hO : ∀ g, O' g → O g ∨ w.heap.size ≤ g) : Fr O w w2 :=
  ⟨k.os.trans h.os, k.tape.trans h.tape, k.output.trans h.output, Nat.le_trans h.size k.size, fun g hg hb => (k.block g (Nat.lt_of_lt_of_le hg h.size) (fun ho => by rcases hO g ho with h1 | h1; exact hb h1; omega)).trans (h.block g hg hb)⟩
theorem Fr.of_below {O : Nat → Prop} {w w' : World} (h : Below w.heap.size w w') : Fr O w w' := ⟨h.os, h.tape, h.output, h.size, fun g hg _ => h.block g hg⟩
theorem Fr.then_below {O : Nat → Prop} {w w1 w2 : World} (h : Fr O w w1) (k : Below w1.heap.size w1 w2) : Fr O w w2 := h.trans (Fr.of_below (O := O) k) (fun _ ho => .inl ho)
theorem Fr.below {O : Nat → Prop} {B : Nat} {w w' : World} (h : Fr O w w') (hB : ∀ g, O g → B ≤ g) (hs : B ≤ w.heap.size) : Below B w w' :=
  ⟨h.os, h.tape, h.output, h.size, fun g hg => h.block g (by omega) (fun ho => by have := hB g ho; omega)⟩
theorem Fr.alloc {O : Nat → Prop} {w w1 : World} (h : Fr O w w1) (o : Obj) : Fr O w (w1.alloc o) := h.then_below ((Below.refl _ _).alloc (Nat.le_refl _) o)
theorem Fr.drew {O : Nat → Prop} {w w1 : World} (h : Fr O w w1) : Fr O w w1.drew := h.then_below (Below.refl _ _).drew
theorem Fr.grown {O : Nat → Prop} {w w1 w2 : World} {row : Option Nat} (h : Fr O w w1) (hg : w1.grownBy w2 row) (hr : ∀ k, row = some k → O k ∨ w.heap.size ≤ k) : Fr O w w2 :=
  ⟨hg.os.trans h.os, hg.tape.trans h.tape, hg.output.trans h.output, Nat.le_trans h.size hg.size, fun g hk ho =>
    (hg.block g (Nat.lt_of_lt_of_le hk h.size) (fun e => by rcases hr g e.symm with h1 | h1; exact ho h1; omega)).trans (h.block g hk ho)⟩
theorem Fr.putObj {O : Nat → Prop} {w w1 : World} {l : Nat} (h : Fr O w w1) (hl : O l ∨ w.heap.size ≤ l) (o : Obj) : Fr O w (w1.putObj l o) :=
  h.grown (grownBy_putObj' w1 l o) (fun k e => by cases e; exact hl)
theorem Fr.put1 (w : World) (l : Nat) (o : Obj) : Fr (fun k => k = l) w (w.putObj l o) := (Fr.refl (fun k => k = l) w).putObj (.inl rfl) o
theorem Fr.setCell {O : Nat → Prop} {b : Nat} {w w1 : World} (h : Fr O w w1) (hb : O b ∨ w.heap.size ≤ b) (i : Nat) (u : Value) : Fr O w (w1.setCell ⟨b, i, none⟩ u) :=
  ⟨h.os, h.tape, h.output, by simpa [World.setCell] using h.size, fun k hk ho => by
    rw [Below.heap_setCell w1 _ u k (by show k ≠ b; intro e; subst e; rcases hb with h1 | h1; exact ho h1; omega)]; exact h.block k hk ho⟩
theorem Fr.wide {O O' : Nat → Prop} {w w' : World} (h : Fr O w w') (hO : ∀ g, g < w.heap.size → O g → O' g) : Fr O' w w' := ⟨h.os, h.tape, h.output, h.size, fun g hg ho => h.block g hg (fun h1 => ho (hO g hg h1))⟩
theorem Fr.heap {O : Nat → Prop} {w w' : World} {g : Nat} {x : Obj} (h : Fr O w w') (hx : w.heap[g]? = some x) (ho : ¬ O g) : w'.heap[g]? = some x := by
  rw [h.block g (Array.getElem?_eq_some_iff.1 hx).1 ho]; exact hx

/-- What is held between two rounds hangs on nothing that the function that is ranged over may change. -/
def Stab {α : Type} (m : Nat) (J : List α → (Nat → Prop) → World → Prop) : Prop :=
  ∀ s O A B T, J s O A → Fr T A B → (∀ k, T k → m ≤ k ∧ ¬ O k) → J s O B
theorem Stab.mono {α : Type} {m m' : Nat} {J : List α → (Nat → Prop) → World → Prop} (h : Stab m J) (hm : m ≤ m') : Stab m' J :=
  fun s O A B T hj hf ht => h s O A B T hj hf (fun k hk => ⟨Nat.le_trans hm (ht k hk).1, (ht k hk).2⟩)

/-- What a round leaves. -/
def RoundOk {α : Type} (J : List α → (Nat → Prop) → World → Prop) (s : List α) (O : Nat → Prop) (W W' : World) : Prop :=
  ∃ O', J s O' W' ∧ Fr O W W' ∧ ∀ k, O' k → O k ∨ W.heap.size ≤ k
theorem RoundOk.trans {α : Type} {J : List α → (Nat → Prop) → World → Prop} {s' : List α} {O : Nat → Prop} {W W1 W2 : World} {O1 : Nat → Prop} (h1 : Fr O W W1) (h2 : ∀ k, O1 k → O k ∨ W.heap.size ≤ k) (h : RoundOk J s' O1 W1 W2) : RoundOk J s' O W W2 := by
  obtain ⟨O', hj, hf, ho⟩ := h
  exact ⟨O', hj, h1.trans hf h2, fun k hk => by rcases ho k hk with h | h; exact h2 k h; exact .inr (Nat.le_trans h1.size h)⟩

/-- A function value that hands on the elements of xs, one after another, to a yield that always asks for more. C: blocks that nobody changes. -/
def Gives {α : Type} (P : Program) (g : Nat) (lb : Array Value) (encs : α → Array Value) (xs : List α) (C : Nat → Prop) (W : World) : Prop :=
  ∀ (l : Nat) (J : List α → (Nat → Prop) → World → Prop) (O : Nat → Prop), (∀ k, C k → ¬ O k) → Stab W.heap.size J → (∀ s O A, J s O A → ∀ k, O k → k < A.heap.size) →
    (∀ pre x post O W1, xs = pre ++ x :: post → J pre O W1 → YieldAt Fence.wide 0 P l (encs x) W1 fun e W' => e = .returned (.bool true) ∧ RoundOk J (pre ++ [x]) O W1 W') →
    J [] O W →
    CallsIn Fence.wide 0 P g (#[.func (.yield l) #[] #[]] ++ lb) W fun e W' => (∃ v, e = .returned v) ∧ RoundOk J xs O W W'

theorem wide_room (k : Nat) : Fence.wide.room k := fun d h => by cases h
theorem CallsIn.any {m m' : Nat} {P : Program} {f : FuncId} {args : Array Value} {w : World} {R : Ending → World → Prop} (h : CallsIn Fence.wide m P f args w R) : CallsIn Fence.wide m' P f args w R :=
  ⟨h.1, fun cs _ => h.2 cs (wide_room _)⟩
theorem RoundIn.any {m m' : Nat} {P : Program} {l : Nat} {f : FuncId} {tmps : Array Value} {assign body : Code} {w : World} {R : Ending → World → Prop}
    (h : RoundIn Fence.wide m P l f tmps assign body w R) : RoundIn Fence.wide m' P l f tmps assign body w R := ⟨h.1, fun c cs _ => h.2 c cs (wide_room _)⟩
theorem YieldAt.any {m m' : Nat} {P : Program} {l : Nat} {args : Array Value} {W : World} {R : Ending → World → Prop} (h : YieldAt Fence.wide m P l args W R) : YieldAt Fence.wide m' P l args W R := by
  obtain ⟨fn, tmps, assign, body, hy, hR⟩ := h
  exact ⟨fn, tmps, assign, body, hy, RoundIn.any hR⟩

/-- How the body of a round is left: off its end. -/
def rfPost {α : Type} (K : List α → (Nat → Prop) → World → Prop) (s : List α) (O : Nat → Prop) (W : World) : Exit → Act → World → Prop
  | .normal, _, W' => RoundOk K s O W W'
  | _, _, _ => False

/-- The statement, for a body that never leaves. -/
theorem rf_law {α : Type} {P : Program} {n : Nat} {g : Operand} {ps : Array Tmp} {assign body : Code} {Q : Exit → Act → World → Prop} {a : Act} {w : World}
    {gf : Nat} {lb : Array Value} (hg : a.eval g = .func (.func gf) #[] lb) (eg : ∀ args w, (callFunc gf args).run P w = .ok (.enter gf args) w)
    {encs : α → Array Value} {xs : List α} {C : Nat → Prop} (hps : ∀ x, (encs x).size = ps.size)
    (hit : ∀ W, Below w.heap.size w W → Gives P gf lb encs xs C W)
    (K : List α → (Nat → Prop) → World → Prop) (O0 : Nat → Prop) (hlt : ∀ s O A, K s O A → ∀ k, O k → k < A.heap.size) (hC : ∀ k, C k → k < w.heap.size ∧ ¬ O0 k)
    (hst : Stab w.heap.size K) (h0 : K [] O0 w) (bx : α → Obj)
    (hround : ∀ (l : Nat) (pre : List α) (x : α) (post : List α) (O : Nat → Prop) (W : World), xs = pre ++ x :: post → K pre O W → ¬ O l → w.heap.size ≤ l →
      assign.wpIn (Fence.wide.inRound l) 0 P (Exit.then (fun a1 W1 => W1 = W.alloc (bx x) ∧ ∀ W2 : World, K pre O W2 → W2.heap[W.heap.size]? = some (bx x) → ¬ O W.heap.size → body.wpIn (Fence.wide.inRound l) 0 P (rfPost K (pre ++ [x]) O W2) a1 W2) (fun _ _ _ => False))
        { tmps := (ps.zip (encs x)).foldl (fun t (p, v) => t.setIfInBounds p v) a.tmps, defers := [] } W)
    (hdone : ∀ (D : Nat) (O' : Nat → Prop) (W' : World), w.heap.size ≤ D → K xs O' W' → W'.heap[D]? = some (.deferred (some [])) → ¬ O' D → Fr O0 w W' → (∀ k, O' k → O0 k ∨ w.heap.size ≤ k) →
      Q .normal { a with defers := { target := .collected D, args := #[] } :: a.defers } W') :
    (Code.rangeFunc g ps assign body).wpIn Fence.wide n P Q a w := by
  refine wpIn_rangeFunc ?_
  intro fn _
  obtain ⟨rec, hrec⟩ : ∃ rec : LoopState → Option Code → Loop, rec = fun st pe => { state := st, pending := pe, fn, tmps := a.tmps, params := ps, assign, body, defers := w.heap.size } := ⟨_, rfl⟩
  obtain ⟨W1, hW1⟩ : ∃ W1, (w.alloc (.deferred (some []))).alloc (.loop (rec .ready none)) = W1 := ⟨_, rfl⟩
  have hB1 : Below w.heap.size w W1 := by rw [← hW1]; exact ((Below.refl _ w).alloc (Nat.le_refl _) _).alloc (by simp) _
  have hs1 : W1.heap.size = w.heap.size + 2 := by rw [← hW1]; simp
  have hL1 : W1.heap[w.heap.size + 1]? = some (.loop (rec .ready none)) := by
    rw [← hW1]; have := World.alloc_heap_new (w.alloc (.deferred (some []))) (.loop (rec .ready none)); rwa [World.size_alloc] at this
  have hD1 : W1.heap[w.heap.size]? = some (.deferred (some [])) := by
    rw [← hW1]; exact (Below.heap_alloc _ _ _ (by simp)).trans (World.alloc_heap_new w _)
  have hO0 : ∀ k, O0 k → k < w.heap.size := fun k hk => hlt _ _ _ h0 k hk
  refine ⟨w.heap.size + 1, [{ target := .collected w.heap.size, args := #[] }], W1, { target := .fn (.func gf) lb, args := #[.func (.yield (w.heap.size + 1)) #[] #[]] }, W1, gf,
    #[.func (.yield (w.heap.size + 1)) #[] #[]] ++ lb, W1, ?_, ?_, fun _ _ => trivial, ?_, fun h => (by cases h), ?_⟩
  · rw [← hW1, hrec]; exact run_enterLoop_outer _ _ _ _ _
  · simp only [resolve, hg]
    simp [go_sem]
  · simp [invoke, go_sem, eg]
  · have key := hit W1 hB1 (w.heap.size + 1)
      (fun s Oj W => ∃ O, K s O W ∧ Oj = (fun k => O k ∨ k = w.heap.size + 1) ∧ ¬ O (w.heap.size + 1) ∧ ¬ O w.heap.size ∧ W.heap[w.heap.size + 1]? = some (.loop (rec .ready none)) ∧ W.heap[w.heap.size]? = some (.deferred (some [])))
      (fun k => O0 k ∨ k = w.heap.size + 1)
      (fun k hk h => h.elim (hC k hk).2 (fun e => by have := (hC k hk).1; omega))
      (by
        rintro s Oj A B T ⟨O, hk, rfl, h1, h2, h3, h4⟩ hf ht
        refine ⟨O, hst s O A B T hk hf (fun k hT => ⟨by have := (ht k hT).1; omega, fun ho => (ht k hT).2 (.inl ho)⟩), rfl, h1, h2, hf.heap h3 (fun hT => ?_), hf.heap h4 (fun hT => ?_)⟩
        · have := (ht _ hT).1; omega
        · have := (ht _ hT).1; omega)
      (by
        rintro s Oj A ⟨O, hk, rfl, h1, h2, h3, h4⟩ k (hk' | rfl)
        · exact hlt _ _ _ hk k hk'
        · exact (Array.getElem?_eq_some_iff.1 h3).1)
      (by
        rintro pre x post Oj W hx ⟨O, hk, rfl, h1, h2, h3, h4⟩
        have hl3 : w.heap.size + 1 < W.heap.size := (Array.getElem?_eq_some_iff.1 h3).1
        have hy := run_yield (P := P) (args := encs x) h3 (by rw [hrec]; exact hps x)
        rw [hrec] at hy
        refine ⟨fn, _, assign, body, hy, roundIn_of_wpIn trivial (wpIn_mono (hround _ pre x post O W hx hk h1 (by omega)) ?_)⟩
        rintro e0 a0 W0 hp0
        cases e0 with
        | normal =>
          obtain ⟨rfl, hp0⟩ := hp0
          have hOb : ¬ O W.heap.size := fun h => by have := hlt _ _ _ hk _ h; omega
          have ha : Fr (fun _ => False) W (W.alloc (bx x)) := (Fr.refl _ W).alloc _
          have hsa : (W.alloc (bx x)).heap.size = W.heap.size + 1 := by simp
          have hbx : (W.alloc (bx x)).heap[W.heap.size]? = some (bx x) := World.alloc_heap_new _ _
          obtain ⟨Wa, hWa⟩ : ∃ Wa, W.alloc (bx x) = Wa := ⟨_, rfl⟩
          rw [hWa] at ha hsa hbx ⊢
          have h3a := ha.heap h3 (fun h => h)
          have h4a := ha.heap h4 (fun h => h)
          have hka := hst _ _ _ _ _ hk ha (fun _ h => h.elim)
          refine ⟨_, run_beginRound h3a (by rw [hrec]), ?_⟩
          have e2 : (Wa.putObj (w.heap.size + 1) (.loop { rec .ready none with state := .busy })).heap[w.heap.size + 1]? = some (.loop { rec .ready none with state := .busy }) := World.putObj_heap_same (by omega)
          have hf2a : Fr (fun k => k = w.heap.size + 1) Wa (Wa.putObj (w.heap.size + 1) (.loop { rec .ready none with state := .busy })) := Fr.put1 Wa _ _
          have hf2 : Fr (fun k => k = w.heap.size + 1) W (Wa.putObj (w.heap.size + 1) (.loop { rec .ready none with state := .busy })) := (ha.wide (fun _ _ h => h.elim)).trans hf2a (fun k h => .inl h)
          have hk2 := hst _ _ _ _ _ hka hf2a (fun k e => by subst e; exact ⟨by omega, h1⟩)
          refine wpIn_mono (hp0 _ hk2 ((World.putObj_heap_other (by omega)).trans hbx) hOb) ?_
          rintro e a3 W3 hp
          cases e with
          | normal =>
            obtain ⟨O', hk3, hf3, ho3⟩ := hp
            have hl4 := hf3.heap e2 h1
            have hO'l : ¬ O' (w.heap.size + 1) := fun h => by rcases ho3 _ h with h | h; exact h1 h; simp at h; omega
            have hO'D : ¬ O' w.heap.size := fun h => by rcases ho3 _ h with h | h; exact h2 h; simp at h; omega
            have hr := run_endRound (P := P) none hl4
            rw [hrec] at hr
            refine ⟨_, _, hr, rfl, fun k => O' k ∨ k = w.heap.size + 1, ⟨O', ?_, rfl, hO'l, hO'D, ?_, ?_⟩, ?_, ?_⟩
            · exact hst _ _ _ _ (fun k => k = w.heap.size + 1) hk3 (Fr.put1 W3 _ _) (fun k e => by subst e; exact ⟨by omega, hO'l⟩)
            · rw [hrec]; exact World.putObj_heap_same (Array.getElem?_eq_some_iff.1 hl4).1
            · rw [World.putObj_heap_other (by omega)]
              exact hf3.heap ((World.putObj_heap_other (by omega)).trans h4a) h2
            · exact (hf2.wide (fun k _ e => .inr e)).trans (O' := fun k => O k ∨ k = w.heap.size + 1) ((hf3.wide (O' := fun k => O k ∨ k = w.heap.size + 1) (fun k _ h => .inl h)).putObj (.inl (.inr rfl)) _) (fun k h => .inl h)
            · rintro k (h | rfl)
              · rcases ho3 k h with h | h
                · exact .inl (.inl h)
                · exact .inr (by simp at h; omega)
              · exact .inl (.inr rfl)
          | ret => exact hp.elim
          | exit id => exact hp.elim
          | goto t => exact hp.elim
          | panic ch => exact hp.elim
          | outgrown => exact hp.elim
        | ret => exact hp0.elim
        | exit id => exact hp0.elim
        | goto t => exact hp0.elim
        | panic ch => exact hp0.elim
        | outgrown => exact hp0.elim)
      ⟨O0, hst _ _ _ _ (fun _ => False) h0 (Fr.of_below hB1) (fun _ h => h.elim), rfl, fun h => by have := hO0 _ h; omega, fun h => by have := hO0 _ h; omega, hL1, hD1⟩
    refine (CallsIn.any key).mono ?_
    rintro e W2 ⟨⟨v, rfl⟩, Oj, ⟨O, hk, rfl, h1, h2, h3, h4⟩, hf, ho⟩
    have hend := run_endLoop (P := P) h3 (by rw [hrec]; simp)
    rw [hrec] at hend
    refine ⟨none, _, hend, ?_⟩
    refine hdone w.heap.size O _ (Nat.le_refl _) ?_ ?_ h2 ?_ ?_
    · exact hst _ _ _ _ (fun k => k = w.heap.size + 1) hk (Fr.put1 W2 _ _) (fun k e => by subst e; exact ⟨by omega, h1⟩)
    · rw [World.putObj_heap_other (by omega)]; exact h4
    · have hf1 : Fr O0 w W2 := (Fr.of_below (O := O0) hB1).trans hf (fun k h => by rcases h with h | rfl; exact .inl h; exact .inr (by omega))
      exact hf1.putObj (.inr (by omega)) _
    · intro k hk'
      rcases ho k (.inl hk') with (h | h) | h
      · exact .inl h
      · exact .inr (by omega)
      · exact .inr (by omega)
end Go.Proofs.Ytegndeefddlccaa
