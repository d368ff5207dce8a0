/-
  A recurrence in work, in memory; lists cloned. A recurrence in work: its block and its rows.
-/
import Derived.Deep.OwnRows
import Derived.Test.YtolehoibpnenlaaMk
import Derived.Test.YtolehoibpnenlaaMi
namespace Go.Proofs.Ytolehoibpnenlaa
open Go.RowKit Go.Deep Go.Maps

theorem info36 : (Try.prog.info? 36).map (fun i => (i.zero, i.size, i.bytes)) = some (some (.agg #[.int .i64 0, .int .i64 0, .int .i64 0, .int .i64 0]), 4, 32) := by kernel_rfl
theorem pcRow_one (x : List (Int × Int)) : ∀ u ∈ pcRow x, u.oneCell' = true := fun u hu => by
  obtain ⟨d, _, hd⟩ := List.mem_flatMap.1 hu
  simp [pcCells] at hd
  rcases hd with rfl | rfl <;> rfl
theorem srRow_one (x : List Sr) : ∀ u ∈ srRow x, u.oneCell' = true := fun u hu => by
  obtain ⟨d, _, hd⟩ := List.mem_flatMap.1 hu
  simp [srCells] at hd
  rcases hd with rfl | rfl <;> rfl
theorem pcRow_len (l : List (Int × Int)) : (pcRow l).length = l.length * 2 := by
  unfold pcRow
  induction l with
  | nil => rfl
  | cons a r ih => rw [List.flatMap_cons, List.length_append, ih]; simp [pcCells]; omega
theorem srRow_len (l : List Sr) : (srRow l).length = l.length * 2 := by
  unfold srRow
  induction l with
  | nil => rfl
  | cons a r ih => rw [List.flatMap_cons, List.length_append, ih]; simp [srCells]; omega
theorem row2_get {α : Type} {f : α → List Value} (h : ∀ a, (f a).length = 2) (l : List α) (j : Nat) (u : Value) (hj : (l.flatMap f)[j]? = some u) : ∃ (a : α), l[j / 2]? = some a ∧ (f a)[j % 2]? = some u := by
  induction l generalizing j with
  | nil => simp at hj
  | cons a r ih =>
    rw [List.flatMap_cons] at hj
    by_cases hlt : j < 2
    · rw [List.getElem?_append_left (by rw [h]; exact hlt)] at hj
      refine ⟨a, by rw [Nat.div_eq_of_lt hlt]; rfl, by rw [Nat.mod_eq_of_lt hlt]; exact hj⟩
    · rw [List.getElem?_append_right (by rw [h]; omega), h] at hj
      obtain ⟨b, h1, h2⟩ := ih (j - 2) hj
      refine ⟨b, ?_, ?_⟩
      · rw [show j / 2 = (j - 2) / 2 + 1 by omega]; exact h1
      · rw [show j % 2 = (j - 2) % 2 by omega]; exact h2
theorem src_pcs {w : World} {ao : Option Addr} {n : Nat} {l : List (Int × Int)} (h : PcsAt w ao n l) : SrcAt w ao n 2 (pcRow l) := by
  refine ⟨by rw [pcRow_len, h.length], pcRow_one l, ?_⟩
  by_cases h0 : 0 < n
  · obtain ⟨g, off, rfl, hc⟩ := h.cells h0
    refine .inr ⟨_, rfl, fun j u hj => ?_⟩
    obtain ⟨p, h1, h2⟩ := row2_get (f := pcCells) (fun a => rfl) l j u hj
    obtain ⟨q1, q2⟩ := hc _ _ h1
    rw [Go.WideShapes.add_plain]
    have hm : j % 2 = 0 ∨ j % 2 = 1 := by omega
    rcases hm with hm | hm
    · rw [hm] at h2; simp [pcCells] at h2; subst h2
      rw [show off + j = off + j / 2 * 2 by omega]; exact q1
    · rw [hm] at h2; simp [pcCells] at h2; subst h2
      rw [show off + j = off + j / 2 * 2 + 1 by omega]; exact q2
  · have hl := h.length
    obtain rfl : n = 0 := by omega
    have : l = [] := List.length_eq_zero_iff.1 hl
    subst this
    cases ao with
    | none => exact .inl ⟨rfl, rfl⟩
    | some a => exact .inr ⟨a, rfl, fun j u hj => by simp [pcRow] at hj⟩
/-- The states as they lie, with the edges where they lie. -/
def Sl2 (w : World) (sl : List Sr) (l : List St) : Prop := sl.length = l.length ∧ ∀ (i : Nat) (r : Sr) (s : St), sl[i]? = some r → l[i]? = some s → r.1 = s.1 ∧ PcsAt w r.2.1 r.2.2.1 s.2
theorem Sl2.below {w w' : World} {sl : List Sr} {l : List St} (h : Sl2 w sl l) (hb : Below w.heap.size w w') : Sl2 w' sl l :=
  ⟨h.1, fun i r s hi hs => ⟨(h.2 i r s hi hs).1, (h.2 i r s hi hs).2.below hb⟩⟩
theorem src_sts {w : World} {ao : Option Addr} {n : Nat} {l : List St} (h : StsAt w ao n l) : ∃ sl, SrcAt w ao n 2 (srRow sl) ∧ Sl2 w sl l := by
  by_cases h0 : 0 < n
  · obtain ⟨g, off, rfl, hc⟩ := h.cells h0
    have each : ∀ i, i < n → ∃ r : Sr, ∃ s : St, l[i]? = some s ∧ r.1 = s.1 ∧ w.cell? ⟨g, off + i * 2, none⟩ = some (.int .i64 r.1) ∧ w.cell? ⟨g, off + i * 2 + 1, none⟩ = some (.slice r.2.1 r.2.2.1 r.2.2.2) ∧ PcsAt w r.2.1 r.2.2.1 s.2 := by
      intro i hi
      have hs : l[i]? = some (l[i]'(by rw [h.length]; exact hi)) := List.getElem?_eq_getElem _
      obtain ⟨ea, en, ec, h1, h2, h3⟩ := hc i _ hs
      exact ⟨(_, ea, en, ec), _, hs, rfl, h1, h2, h3⟩
    obtain ⟨q, hq⟩ := Deep.choose_lt each
    refine ⟨(List.range n).map q, ⟨by rw [srRow_len]; simp, srRow_one _, .inr ⟨_, rfl, fun j u hj => ?_⟩⟩, by simp [h.length], fun i r s hi hs => ?_⟩
    · obtain ⟨p, h1, h2⟩ := row2_get (f := srCells) (fun a => rfl) _ j u hj
      rw [Go.WideShapes.add_plain]
      have hjn : j / 2 < n := by have := (List.getElem?_eq_some_iff.1 h1).1; simpa using this
      obtain ⟨s, _, _, q1, q2, _⟩ := hq _ hjn
      rw [List.getElem?_map, List.getElem?_range hjn] at h1
      simp at h1
      subst h1
      have hm : j % 2 = 0 ∨ j % 2 = 1 := by omega
      rcases hm with hm | hm
      · rw [hm] at h2; simp [srCells] at h2; subst h2
        rw [show off + j = off + j / 2 * 2 by omega]; exact q1
      · rw [hm] at h2; simp [srCells] at h2; subst h2
        rw [show off + j = off + j / 2 * 2 + 1 by omega]; exact q2
    · have hin : i < n := by have := (List.getElem?_eq_some_iff.1 hi).1; simpa using this
      obtain ⟨s', hs', e1, _, _, e2⟩ := hq _ hin
      rw [List.getElem?_map, List.getElem?_range hin] at hi
      simp at hi
      subst hi
      rw [hs] at hs'; cases hs'
      exact ⟨e1, e2⟩
  · have hl := h.length
    obtain rfl : n = 0 := by omega
    have : l = [] := List.length_eq_zero_iff.1 hl
    subst this
    refine ⟨[], ⟨rfl, fun u hu => by simp [srRow] at hu, ?_⟩, rfl, fun i r s hi => by simp at hi⟩
    cases ao with
    | none => exact .inl ⟨rfl, rfl⟩
    | some a => exact .inr ⟨a, rfl, fun j u hj => by simp [srRow] at hj⟩

set_option maxRecDepth 20000 in
set_option maxHeartbeats 1000000 in
theorem cloneD_calls (xs : List Value) (ao : Option Addr) (n sc : Nat) (w : World) (h : SrcAt w ao n 4 xs) (hs : n ≤ 100000) :
    Calls Try.prog 49 #[.slice ao n sc] w fun e w' => RowPost 36 4 n xs w e w' := by
  obtain ⟨i0, hi, hz0, hz1, hz2⟩ := info_parts info36
  have q : ∀ (w : World) (a : Option Addr) (n c n' c' : Nat), (binOp .eql 22 (.slice a n c) (.slice none n' c')).run Try.prog w = .ok (.bool a.isNone) w := fun w a n c n' c' => Lib.run_eql_slice_nil w _ _ a n c n' c' Try.underlying22
  cases ao with
  | none =>
    have h0 : n = 0 ∧ xs = [] := by
      rcases h.2.2 with ⟨_, e⟩ | ⟨ad, e, _⟩
      · subst e; exact ⟨rfl, List.length_eq_zero_iff.1 (by rw [h.1])⟩
      · cases e
    obtain ⟨rfl, rfl⟩ := h0
    clear h
    go_enter Try.func49, Try.ntmps49
    go_wp2
    go_ret
    exact ⟨none, 0, rfl, none_row _ _ _ _, Below.refl _ _⟩
  | some sa =>
    have HS : Hid (SrcAt (w.alloc (.cells #[] 36)) (some sa) n 4 xs) := h.below ((Below.refl _ _).alloc (Nat.le_refl _) _)
    have HO : Hid ((w.alloc (.cells #[] 36)).ownsRow w.heap.size 36 4 (.slice (some ⟨w.heap.size, 0, none⟩) 0 0) 0 [] ∧ Below w.heap.size w (w.alloc (.cells #[] 36))) := ⟨empty_row w 36 4 w.heap.size (Nat.le_refl _) _ rfl, (Below.refl _ _).alloc (Nat.le_refl _) _⟩
    clear h
    go_enter Try.func49, Try.ntmps49
    go_wp2_with (at_builtin; refine wpList_append_opt rfl _ _ 22 rfl w.heap.size 36 i0 _ 4 32 Try.underlying22 hi hz0 hz1 hz2 rfl (by decide) (.slice (some ⟨w.heap.size, 0, none⟩) 0 0) 0 [] rfl HO.out.1 (some sa) n sc xs rfl HS.out (by unfold maxLen; omega) (by omega) HO.out.2.size ?_)
    intro v' w5 ho hg
    obtain ⟨ao5, c5, rfl⟩ := owned_shape ho
    have HN : Hid (w5.ownsRow w.heap.size 36 4 (.slice ao5 n c5) n xs ∧ Below w.heap.size w w5) := ⟨by simpa using ho, HO.out.2.grown hg HO.out.2.size (fun k hk => by simp [Value.ownBlock] at hk; omega)⟩
    clear ho hg
    go_wp2
    go_ret
    exact ⟨ao5, c5, by simp, HN.out⟩
set_option maxRecDepth 20000 in
set_option maxHeartbeats 1000000 in
theorem cloneI_calls (xs : List Value) (ao : Option Addr) (n sc : Nat) (w : World) (h : SrcAt w ao n 1 xs) (hs : n ≤ 100000) :
    Calls Try.prog 50 #[.slice ao n sc] w fun e w' => RowPost 3 1 n xs w e w' := by
  obtain ⟨i0, hi, hz0, hz1, hz2⟩ := info_parts info3
  have q : ∀ (w : World) (a : Option Addr) (n c n' c' : Nat), (binOp .eql 23 (.slice a n c) (.slice none n' c')).run Try.prog w = .ok (.bool a.isNone) w := fun w a n c n' c' => Lib.run_eql_slice_nil w _ _ a n c n' c' Try.underlying23
  cases ao with
  | none =>
    have h0 : n = 0 ∧ xs = [] := by
      rcases h.2.2 with ⟨_, e⟩ | ⟨ad, e, _⟩
      · subst e; exact ⟨rfl, List.length_eq_zero_iff.1 (by rw [h.1])⟩
      · cases e
    obtain ⟨rfl, rfl⟩ := h0
    clear h
    go_enter Try.func50, Try.ntmps50
    go_wp2
    go_ret
    exact ⟨none, 0, rfl, none_row _ _ _ _, Below.refl _ _⟩
  | some sa =>
    have HS : Hid (SrcAt (w.alloc (.cells #[] 3)) (some sa) n 1 xs) := h.below ((Below.refl _ _).alloc (Nat.le_refl _) _)
    have HO : Hid ((w.alloc (.cells #[] 3)).ownsRow w.heap.size 3 1 (.slice (some ⟨w.heap.size, 0, none⟩) 0 0) 0 [] ∧ Below w.heap.size w (w.alloc (.cells #[] 3))) := ⟨empty_row w 3 1 w.heap.size (Nat.le_refl _) _ rfl, (Below.refl _ _).alloc (Nat.le_refl _) _⟩
    clear h
    go_enter Try.func50, Try.ntmps50
    go_wp2_with (at_builtin; refine wpList_append_opt rfl _ _ 23 rfl w.heap.size 3 i0 _ 1 8 Try.underlying23 hi hz0 hz1 hz2 rfl (by decide) (.slice (some ⟨w.heap.size, 0, none⟩) 0 0) 0 [] rfl HO.out.1 (some sa) n sc xs rfl HS.out (by unfold maxLen; omega) (by omega) HO.out.2.size ?_)
    intro v' w5 ho hg
    obtain ⟨ao5, c5, rfl⟩ := owned_shape ho
    have HN : Hid (w5.ownsRow w.heap.size 3 1 (.slice ao5 n c5) n xs ∧ Below w.heap.size w w5) := ⟨by simpa using ho, HO.out.2.grown hg HO.out.2.size (fun k hk => by simp [Value.ownBlock] at hk; omega)⟩
    clear ho hg
    go_wp2
    go_ret
    exact ⟨ao5, c5, by simp, HN.out⟩
set_option maxRecDepth 20000 in
set_option maxHeartbeats 1000000 in
theorem cloneS_calls (xs : List Value) (ao : Option Addr) (n sc : Nat) (w : World) (h : SrcAt w ao n 2 xs) (hs : n ≤ 100000) :
    Calls Try.prog 51 #[.slice ao n sc] w fun e w' => RowPost 39 2 n xs w e w' := by
  obtain ⟨i0, hi, hz0, hz1, hz2⟩ := info_parts info52
  have q : ∀ (w : World) (a : Option Addr) (n c n' c' : Nat), (binOp .eql 24 (.slice a n c) (.slice none n' c')).run Try.prog w = .ok (.bool a.isNone) w := fun w a n c n' c' => Lib.run_eql_slice_nil w _ _ a n c n' c' Try.underlying24
  cases ao with
  | none =>
    have h0 : n = 0 ∧ xs = [] := by
      rcases h.2.2 with ⟨_, e⟩ | ⟨ad, e, _⟩
      · subst e; exact ⟨rfl, List.length_eq_zero_iff.1 (by rw [h.1])⟩
      · cases e
    obtain ⟨rfl, rfl⟩ := h0
    clear h
    go_enter Try.func51, Try.ntmps51
    go_wp2
    go_ret
    exact ⟨none, 0, rfl, none_row _ _ _ _, Below.refl _ _⟩
  | some sa =>
    have HS : Hid (SrcAt (w.alloc (.cells #[] 39)) (some sa) n 2 xs) := h.below ((Below.refl _ _).alloc (Nat.le_refl _) _)
    have HO : Hid ((w.alloc (.cells #[] 39)).ownsRow w.heap.size 39 2 (.slice (some ⟨w.heap.size, 0, none⟩) 0 0) 0 [] ∧ Below w.heap.size w (w.alloc (.cells #[] 39))) := ⟨empty_row w 39 2 w.heap.size (Nat.le_refl _) _ rfl, (Below.refl _ _).alloc (Nat.le_refl _) _⟩
    clear h
    go_enter Try.func51, Try.ntmps51
    go_wp2_with (at_builtin; refine wpList_append_opt rfl _ _ 24 rfl w.heap.size 39 i0 _ 2 32 Try.underlying24 hi hz0 hz1 hz2 rfl (by decide) (.slice (some ⟨w.heap.size, 0, none⟩) 0 0) 0 [] rfl HO.out.1 (some sa) n sc xs rfl HS.out (by unfold maxLen; omega) (by omega) HO.out.2.size ?_)
    intro v' w5 ho hg
    obtain ⟨ao5, c5, rfl⟩ := owned_shape ho
    have HN : Hid (w5.ownsRow w.heap.size 39 2 (.slice ao5 n c5) n xs ∧ Below w.heap.size w w5) := ⟨by simpa using ho, HO.out.2.grown hg HO.out.2.size (fun k hk => by simp [Value.ownBlock] at hk; omega)⟩
    clear ho hg
    go_wp2
    go_ret
    exact ⟨ao5, c5, by simp, HN.out⟩
set_option maxRecDepth 20000 in
set_option maxHeartbeats 1000000 in
theorem cloneE_calls (xs : List Value) (ao : Option Addr) (n sc : Nat) (w : World) (h : SrcAt w ao n 2 xs) (hs : n ≤ 100000) :
    Calls Try.prog 52 #[.slice ao n sc] w fun e w' => RowPost 49 2 n xs w e w' := by
  obtain ⟨i0, hi, hz0, hz1, hz2⟩ := info_parts info54
  have q : ∀ (w : World) (a : Option Addr) (n c n' c' : Nat), (binOp .eql 37 (.slice a n c) (.slice none n' c')).run Try.prog w = .ok (.bool a.isNone) w := fun w a n c n' c' => Lib.run_eql_slice_nil w _ _ a n c n' c' Try.underlying37
  cases ao with
  | none =>
    have h0 : n = 0 ∧ xs = [] := by
      rcases h.2.2 with ⟨_, e⟩ | ⟨ad, e, _⟩
      · subst e; exact ⟨rfl, List.length_eq_zero_iff.1 (by rw [h.1])⟩
      · cases e
    obtain ⟨rfl, rfl⟩ := h0
    clear h
    go_enter Try.func52, Try.ntmps52
    go_wp2
    go_ret
    exact ⟨none, 0, rfl, none_row _ _ _ _, Below.refl _ _⟩
  | some sa =>
    have HS : Hid (SrcAt (w.alloc (.cells #[] 49)) (some sa) n 2 xs) := h.below ((Below.refl _ _).alloc (Nat.le_refl _) _)
    have HO : Hid ((w.alloc (.cells #[] 49)).ownsRow w.heap.size 49 2 (.slice (some ⟨w.heap.size, 0, none⟩) 0 0) 0 [] ∧ Below w.heap.size w (w.alloc (.cells #[] 49))) := ⟨empty_row w 49 2 w.heap.size (Nat.le_refl _) _ rfl, (Below.refl _ _).alloc (Nat.le_refl _) _⟩
    clear h
    go_enter Try.func52, Try.ntmps52
    go_wp2_with (at_builtin; refine wpList_append_opt rfl _ _ 37 rfl w.heap.size 49 i0 _ 2 16 Try.underlying37 hi hz0 hz1 hz2 rfl (by decide) (.slice (some ⟨w.heap.size, 0, none⟩) 0 0) 0 [] rfl HO.out.1 (some sa) n sc xs rfl HS.out (by unfold maxLen; omega) (by omega) HO.out.2.size ?_)
    intro v' w5 ho hg
    obtain ⟨ao5, c5, rfl⟩ := owned_shape ho
    have HN : Hid (w5.ownsRow w.heap.size 49 2 (.slice ao5 n c5) n xs ∧ Below w.heap.size w w5) := ⟨by simpa using ho, HO.out.2.grown hg HO.out.2.size (fun k hk => by simp [Value.ownBlock] at hk; omega)⟩
    clear ho hg
    go_wp2
    go_ret
    exact ⟨ao5, c5, by simp, HN.out⟩
end Go.Proofs.Ytolehoibpnenlaa
namespace Go.Proofs.Ytolehoibpnenlaa
open Go.RowKit Go.Deep Go.Maps

/-- Where it lies. -/
structure Ly where
  da : Option Addr
  dc : Nat
  sa : Option Addr
  sc : Nat
  ta : Option Addr
  tc : Nat
  na : Option Addr
  nc : Nat
  sl : List Sr
def wkCells (x : Rc) (m : Nat) (y : Ly) : Array Value :=
  #[.int .i64 x.letters, .slice y.da x.defs.length y.dc, .slice y.sa x.subst.length y.sc, .int .i64 x.beg, .int .i64 x.fin, .int .i64 x.front, .int .i64 x.back, .bool x.banded, .int .i64 x.lo, .int .i64 x.hi, .slice y.ta x.states.length y.tc, .slice y.na m y.nc]
/-- No two rows of edges share a block. -/
def Dj (sl : List Sr) : Prop := ∀ (i j : Nat) (r r' : Sr) (a : Addr), i ≠ j → sl[i]? = some r → sl[j]? = some r' → r.2.1 = some a → r'.2.1 ≠ some a
structure WkAt (w : World) (base wb : Nat) (x : Rc) (vs : List Int) (y : Ly) : Prop where
  fro : base ≤ wb
  box : w.heap[wb]? = some (.cells (wkCells x vs.length y) 58 (0, 0))
  defs : w.ownsRow base 36 4 (.slice y.da x.defs.length y.dc) x.defs.length (dfRow x.defs)
  subst : w.ownsRow base 3 1 (.slice y.sa x.subst.length y.sc) x.subst.length (itRow x.subst)
  nums : w.ownsRow base 3 1 (.slice y.na vs.length y.nc) vs.length (itRow vs)
  states : w.ownsRow base 39 2 (.slice y.ta x.states.length y.tc) x.states.length (srRow y.sl)
  rows : Own2 w base y.sl x.states
  apart : Dj y.sl
  two : ∀ a, y.sa = some a → y.na ≠ some a
theorem WkAt.below {w w' : World} {base wb : Nat} {x : Rc} {vs : List Int} {y : Ly} (h : WkAt w base wb x vs y) (hb : Below w.heap.size w w') : WkAt w' base wb x vs y :=
  ⟨h.fro, by rw [hb.block _ (lt_block h.box)]; exact h.box, owned_below h.defs hb, owned_below h.subst hb, owned_below h.nums hb, owned_below h.states hb, h.rows.below hb, h.apart, h.two⟩
/-- A row stays where another block is written. -/
theorem own_apart {w w' : World} {base : Nat} {e : TypeId} {size : Nat} {v : Value} {n : Nat} {xs : List Value} {g : Nat} (h : w.ownsRow base e size v n xs) (hg : w.grownBy w' (some g)) (hne : v.ownBlock ≠ some g) : w'.ownsRow base e size v n xs :=
  owned_of_block h fun k _ hk hc => hg.block k (lt_block hc) (fun e => hne (hk.trans e))
theorem own_kind {w w' : World} {base : Nat} {e t : TypeId} {size : Nat} {v : Value} {n : Nat} {xs : List Value} {g : Nat} {cs : Array Value} (h : w.ownsRow base e size v n xs) (hb : w.heap[g]? = some (.cells cs t (0, 0))) (hne : e ≠ t) (hg : w.grownBy w' (some g)) : w'.ownsRow base e size v n xs :=
  owned_of_block h fun k _ _ hc => hg.block k (lt_block hc) (fun e' => by cases e'; rw [hb] at hc; cases hc; exact hne rfl)
theorem grown_set (w : World) (g i : Nat) (v : Value) : w.grownBy (w.setCell ⟨g, i, none⟩ v) (some g) :=
  ⟨rfl, rfl, rfl, by simp [World.setCell], fun k _ hk => Below.heap_setCell _ _ _ _ (fun e => hk (by rw [e]))⟩
theorem grown_trans {w w' w'' : World} {r : Option Nat} (h : w.grownBy w' r) (k : w'.grownBy w'' r) : w.grownBy w'' r :=
  ⟨k.os.trans h.os, k.tape.trans h.tape, k.output.trans h.output, Nat.le_trans h.size k.size, fun i hi hr => (k.block i (Nat.lt_of_lt_of_le hi h.size) hr).trans (h.block i hi hr)⟩
theorem grown_drew {w w' : World} {r : Option Nat} (h : w.grownBy w' r) : w.grownBy w'.drew r := ⟨h.os, h.tape, h.output, h.size, h.block⟩
theorem grown_below {w w' : World} {r : Option Nat} (h : Below w.heap.size w w') : w.grownBy w' r := ⟨h.os, h.tape, h.output, h.size, fun k hk _ => h.block k hk⟩
/-- A cell is written in a block. -/
theorem heap_set {w : World} {g i : Nat} {cs : Array Value} {t : TypeId} (v : Value) (h : w.heap[g]? = some (.cells cs t (0, 0))) : (w.setCell ⟨g, i, none⟩ v).heap[g]? = some (.cells (cs.setIfInBounds i v) t (0, 0)) := by
  simp [World.setCell, Array.getElem?_modify, h]
theorem own_set {w : World} {base : Nat} {e : TypeId} {size g n cap : Nat} {xs : List Value} (h : w.ownsRow base e size (.slice (some ⟨g, 0, none⟩) n cap) n xs) (j : Nat) (v : Value) :
    (w.setCell ⟨g, j, none⟩ v).ownsRow base e size (.slice (some ⟨g, 0, none⟩) n cap) n (xs.set j v) := by
  refine ⟨by rw [List.length_set]; exact h.1, ?_⟩
  rcases h.2 with ⟨hv, _⟩ | ⟨g', cap', cur, hv, hb, hg, h1, h2, h3, h4⟩
  · cases hv
  · cases hv
    refine .inr ⟨g, cap, cur.setIfInBounds j v, rfl, hb, heap_set v hg, h1, h2, by simpa using h3, ?_⟩
    rw [Array.toList_setIfInBounds, ← h4]

    rw [List.take_set]
/-- What a store into the box leaves. -/
theorem WkAt.store {w w' : World} {base wb : Nat} {x x' : Rc} {vs : List Int} {y : Ly} (h : WkAt w base wb x vs y) (hg : w.grownBy w' (some wb)) (hb : w'.heap[wb]? = some (.cells (wkCells x' vs.length y) 58 (0, 0)))
    (e1 : x'.defs = x.defs) (e2 : x'.subst = x.subst) (e3 : x'.states = x.states) : WkAt w' base wb x' vs y := by
  refine ⟨h.fro, hb, ?_, ?_, own_kind h.nums h.box (by decide) hg, ?_, ?_, h.apart, h.two⟩
  · rw [e1]; exact own_kind h.defs h.box (by decide) hg
  · rw [e2]; exact own_kind h.subst h.box (by decide) hg
  · rw [e3]; exact own_kind h.states h.box (by decide) hg
  · rw [e3]; exact ⟨h.rows.1, fun i r s hi hs => ⟨(h.rows.2 i r s hi hs).1, (h.rows.2 i r s hi hs).2.1, (h.rows.2 i r s hi hs).2.2.1, own_kind (h.rows.2 i r s hi hs).2.2.2 h.box (by decide) hg⟩⟩
theorem WkAt.cell {w : World} {base wb : Nat} {x : Rc} {vs : List Int} {y : Ly} (h : WkAt w base wb x vs y) (i : Nat) (u : Value) (hi : (wkCells x vs.length y)[i]? = some u) : w.cell? ⟨wb, i, none⟩ = some u := blk h.box hi
theorem WkAt.froz {w : World} {base wb : Nat} {x : Rc} {vs : List Int} {y : Ly} (h : WkAt w base wb x vs y) (i : Nat) : w.frozen? ⟨wb, i, none⟩ = false := frozen_of_row w wb i _ _ h.box
/-- Few edges in a right recurrence. -/
theorem edges_few {ns nd : Int} : ∀ {l : List (Int × Int)} {least : Int}, edgesB ns nd least l = true → (l.length : Int) ≤ ns - least ∨ l = []
  | [], _, _ => .inr rfl
  | e :: r, least, h => by
    simp only [edgesB, Bool.and_eq_true, inI_iff] at h
    rcases edges_few h.2 with h1 | h1
    · left; simp only [List.length_cons]; omega
    · subst h1; left; simp only [List.length_cons, List.length_nil]; omega
theorem right_states {x : Rc} (h : rightR x = true) : x.states.length ≤ 9 ∧ ∀ s ∈ x.states, stateB x.states.length x.defs.length s = true := by
  simp only [rightR, statesR, Bool.and_eq_true, decide_eq_true_eq, List.all_eq_true] at h
  exact ⟨h.2.2.2.2.1, h.2.2.2.2.2⟩
theorem right_edges {x : Rc} (h : rightR x = true) : ∀ s ∈ x.states, s.2.length ≤ 100 := fun s hs => by
  obtain ⟨h1, h2⟩ := right_states h
  have h3 := h2 s hs
  simp only [stateB, Bool.and_eq_true] at h3
  rcases edges_few h3.2 with h4 | h4
  · omega
  · rw [h4]; simp
theorem right_vals {x : Rc} (h : rightR x = true) : (valsB x.defs).2 = 0 := by
  simp only [rightR, Bool.and_eq_true, decide_eq_true_eq] at h
  exact h.1
theorem right_defs {x : Rc} (h : rightR x = true) : x.defs.length ≤ 5004 ∧ (valsB x.defs).1.length = x.defs.length := ⟨(valsB_len _ (right_vals h)).2, (valsB_len _ (right_vals h)).1⟩
theorem right_subst {x : Rc} (h : rightR x = true) : x.subst.length ≤ 400 ∧ 4 ≤ x.subst.length ∧ ∀ p ∈ x.subst, 0 ≤ p ∧ p < x.defs.length := by
  simp only [rightR, substR, placesB, Bool.and_eq_true, decide_eq_true_eq, inI_iff, List.all_eq_true] at h
  obtain ⟨_, ⟨h1, h2, h3⟩, _⟩ := h
  have a : x.letters * x.letters ≤ 20 * 20 := Int.mul_le_mul h1.2 h1.2 (by omega) (by omega)
  have b : 2 * 2 ≤ x.letters * x.letters := Int.mul_le_mul h1.1 h1.1 (by omega) (by omega)
  exact ⟨by omega, by omega, fun p hp => by have := h3 p hp; omega⟩
theorem right_ends {x : Rc} (h : rightR x = true) : (0 ≤ x.front ∧ x.front < x.defs.length) ∧ 0 ≤ x.back ∧ x.back < x.defs.length := by
  have hl := (right_defs h).2
  simp only [rightR, endsR, placesB, Bool.and_eq_true, decide_eq_true_eq, inI_iff, List.all_eq_true] at h
  have h1 := h.2.2.1.2.2.1
  rw [hl] at h1
  have q1 := h1 x.front (by simp)
  have q2 := h1 x.back (by simp)
  omega
theorem right_costs {x : Rc} (h : rightR x = true) : ∀ s ∈ x.states, ∀ e ∈ s.2, -1 ≤ e.2 ∧ e.2 < x.defs.length ∧ -1 ≤ e.1 ∧ e.1 < x.states.length := fun s hs => by
  obtain ⟨h1, h2⟩ := right_states h
  have h3 := h2 s hs
  simp only [stateB, Bool.and_eq_true] at h3
  have key : ∀ (l : List (Int × Int)) (least : Int), -1 ≤ least → edgesB x.states.length x.defs.length least l = true → ∀ e ∈ l, -1 ≤ e.2 ∧ e.2 < x.defs.length ∧ -1 ≤ e.1 ∧ e.1 < x.states.length := by
    intro l
    induction l with
    | nil => intro _ _ _ e he; simp at he
    | cons a r ih =>
      intro least hl h e he
      simp only [edgesB, Bool.and_eq_true, Bool.or_eq_true, decide_eq_true_eq, inI_iff] at h
      rcases List.mem_cons.1 he with rfl | he
      · rcases h.1.2 with q | q <;> omega
      · exact ih (a.1 + 1) (by omega) h.2 e he
  exact key _ _ (by omega) h3.2
end Go.Proofs.Ytolehoibpnenlaa
