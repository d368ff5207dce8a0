/-
  A recurrence in work, in memory; lists cloned.
-/
import Derived.Deep.OwnRows
import Derived.Test.YtolehoibpnenlabPsP
import Derived.Test.YtolehoibpnenlabMi
namespace Go.Proofs.Ytolehoibpnenlab
open Go.RowKit Go.Deep Go.Maps

theorem info36 : (Try.prog.info? 34).map (fun i => (i.zero, i.size, i.bytes)) = some (some (.agg #[.int .i64 0, .int .i64 0, .int .i64 0, .int .i64 0]), 4, 32) := by kernel_rfl
theorem pcRow_one (x : List (Int × Int)) : ∀ u ∈ pcRow x, u.oneCell' = true := fun u hu => by
  obtain ⟨d, _, hd⟩ := List.mem_flatMap.1 hu
  simp [pcCells] at hd
  rcases hd with rfl | rfl <;> rfl
theorem srRow_one (x : List Sr) : ∀ u ∈ srRow x, u.oneCell' = true := fun u hu => by
  obtain ⟨d, _, hd⟩ := List.mem_flatMap.1 hu
  simp [srCells] at hd
  rcases hd with rfl | rfl <;> rfl
theorem pcRow_len (l : List (Int × Int)) : (pcRow l).length = l.length * 2 := by
  unfold pcRow
  induction l with
  | nil => rfl
  | cons a r ih => rw [List.flatMap_cons, List.length_append, ih]; simp [pcCells]; omega
theorem srRow_len (l : List Sr) : (srRow l).length = l.length * 2 := by
  unfold srRow
  induction l with
  | nil => rfl
  | cons a r ih => rw [List.flatMap_cons, List.length_append, ih]; simp [srCells]; omega
theorem row2_get {α : Type} {f : α → List Value} (h : ∀ a, (f a).length = 2) (l : List α) (j : Nat) (u : Value) (hj : (l.flatMap f)[j]? = some u) : ∃ (a : α), l[j / 2]? = some a ∧ (f a)[j % 2]? = some u := by
  induction l generalizing j with
  | nil => simp at hj
  | cons a r ih =>
    rw [List.flatMap_cons] at hj
    by_cases hlt : j < 2
    · rw [List.getElem?_append_left (by rw [h]; exact hlt)] at hj
      refine ⟨a, by rw [Nat.div_eq_of_lt hlt]; rfl, by rw [Nat.mod_eq_of_lt hlt]; exact hj⟩
    · rw [List.getElem?_append_right (by rw [h]; omega), h] at hj
      obtain ⟨b, h1, h2⟩ := ih (j - 2) hj
      refine ⟨b, ?_, ?_⟩
      · rw [show j / 2 = (j - 2) / 2 + 1 by omega]; exact h1
      · rw [show j % 2 = (j - 2) % 2 by omega]; exact h2
theorem src_pcs {w : World} {ao : Option Addr} {n : Nat} {l : List (Int × Int)} (h : PcsAt w ao n l) : SrcAt w ao n 2 (pcRow l) := by
  refine ⟨by rw [pcRow_len, h.length], pcRow_one l, ?_⟩
  by_cases h0 : 0 < n
  · obtain ⟨g, off, rfl, hc⟩ := h.cells h0
    refine .inr ⟨_, rfl, fun j u hj => ?_⟩
    obtain ⟨p, h1, h2⟩ := row2_get (f := pcCells) (fun a => rfl) l j u hj
    obtain ⟨q1, q2⟩ := hc _ _ h1
    rw [Go.WideShapes.add_plain]
    have hm : j % 2 = 0 ∨ j % 2 = 1 := by omega
    rcases hm with hm | hm
    · rw [hm] at h2; simp [pcCells] at h2; subst h2
      rw [show off + j = off + j / 2 * 2 by omega]; exact q1
    · rw [hm] at h2; simp [pcCells] at h2; subst h2
      rw [show off + j = off + j / 2 * 2 + 1 by omega]; exact q2
  · have hl := h.length
    obtain rfl : n = 0 := by omega
    have : l = [] := List.length_eq_zero_iff.1 hl
    subst this
    cases ao with
    | none => exact .inl ⟨rfl, rfl⟩
    | some a => exact .inr ⟨a, rfl, fun j u hj => by simp [pcRow] at hj⟩
/-- The states as they lie, with the edges where they lie. -/
def Sl2 (w : World) (sl : List Sr) (l : List St) : Prop := sl.length = l.length ∧ ∀ (i : Nat) (r : Sr) (s : St), sl[i]? = some r → l[i]? = some s → r.1 = s.1 ∧ PcsAt w r.2.1 r.2.2.1 s.2
theorem Sl2.below {w w' : World} {sl : List Sr} {l : List St} (h : Sl2 w sl l) (hb : Below w.heap.size w w') : Sl2 w' sl l :=
  ⟨h.1, fun i r s hi hs => ⟨(h.2 i r s hi hs).1, (h.2 i r s hi hs).2.below hb⟩⟩
theorem src_sts {w : World} {ao : Option Addr} {n : Nat} {l : List St} (h : StsAt w ao n l) : ∃ sl, SrcAt w ao n 2 (srRow sl) ∧ Sl2 w sl l := by
  by_cases h0 : 0 < n
  · obtain ⟨g, off, rfl, hc⟩ := h.cells h0
    have each : ∀ i, i < n → ∃ r : Sr, ∃ s : St, l[i]? = some s ∧ r.1 = s.1 ∧ w.cell? ⟨g, off + i * 2, none⟩ = some (.int .i64 r.1) ∧ w.cell? ⟨g, off + i * 2 + 1, none⟩ = some (.slice r.2.1 r.2.2.1 r.2.2.2) ∧ PcsAt w r.2.1 r.2.2.1 s.2 := by
      intro i hi
      have hs : l[i]? = some (l[i]'(by rw [h.length]; exact hi)) := List.getElem?_eq_getElem _
      obtain ⟨ea, en, ec, h1, h2, h3⟩ := hc i _ hs
      exact ⟨(_, ea, en, ec), _, hs, rfl, h1, h2, h3⟩
    obtain ⟨q, hq⟩ := Deep.choose_lt each
    refine ⟨(List.range n).map q, ⟨by rw [srRow_len]; simp, srRow_one _, .inr ⟨_, rfl, fun j u hj => ?_⟩⟩, by simp [h.length], fun i r s hi hs => ?_⟩
    · obtain ⟨p, h1, h2⟩ := row2_get (f := srCells) (fun a => rfl) _ j u hj
      rw [Go.WideShapes.add_plain]
      have hjn : j / 2 < n := by have := (List.getElem?_eq_some_iff.1 h1).1; simpa using this
      obtain ⟨s, _, _, q1, q2, _⟩ := hq _ hjn
      rw [List.getElem?_map, List.getElem?_range hjn] at h1
      simp at h1
      subst h1
      have hm : j % 2 = 0 ∨ j % 2 = 1 := by omega
      rcases hm with hm | hm
      · rw [hm] at h2; simp [srCells] at h2; subst h2
        rw [show off + j = off + j / 2 * 2 by omega]; exact q1
      · rw [hm] at h2; simp [srCells] at h2; subst h2
        rw [show off + j = off + j / 2 * 2 + 1 by omega]; exact q2
    · have hin : i < n := by have := (List.getElem?_eq_some_iff.1 hi).1; simpa using this
      obtain ⟨s', hs', e1, _, _, e2⟩ := hq _ hin
      rw [List.getElem?_map, List.getElem?_range hin] at hi
      simp at hi
      subst hi
      rw [hs] at hs'; cases hs'
      exact ⟨e1, e2⟩
  · have hl := h.length
    obtain rfl : n = 0 := by omega
    have : l = [] := List.length_eq_zero_iff.1 hl
    subst this
    refine ⟨[], ⟨rfl, fun u hu => by simp [srRow] at hu, ?_⟩, rfl, fun i r s hi => by simp at hi⟩
    cases ao with
    | none => exact .inl ⟨rfl, rfl⟩
    | some a => exact .inr ⟨a, rfl, fun j u hj => by simp [srRow] at hj⟩

set_option maxRecDepth 20000 in
set_option maxHeartbeats 1000000 in
theorem cloneD_calls (xs : List Value) (ao : Option Addr) (n sc : Nat) (w : World) (h : SrcAt w ao n 4 xs) (hs : n ≤ 100000) :
    Calls Try.prog 28 #[.slice ao n sc] w fun e w' => RowPost 34 4 n xs w e w' := by
  obtain ⟨i0, hi, hz0, hz1, hz2⟩ := info_parts info36
  have q : ∀ (w : World) (a : Option Addr) (n c n' c' : Nat), (binOp .eql 22 (.slice a n c) (.slice none n' c')).run Try.prog w = .ok (.bool a.isNone) w := fun w a n c n' c' => Lib.run_eql_slice_nil w _ _ a n c n' c' Try.underlying22
  cases ao with
  | none =>
    have h0 : n = 0 ∧ xs = [] := by
      rcases h.2.2 with ⟨_, e⟩ | ⟨ad, e, _⟩
      · subst e; exact ⟨rfl, List.length_eq_zero_iff.1 (by rw [h.1])⟩
      · cases e
    obtain ⟨rfl, rfl⟩ := h0
    clear h
    go_enter Try.func28, Try.ntmps28
    go_wp2
    go_ret
    exact ⟨none, 0, rfl, none_row _ _ _ _, Below.refl _ _⟩
  | some sa =>
    have HS : Hid (SrcAt (w.alloc (.cells #[] 34)) (some sa) n 4 xs) := h.below ((Below.refl _ _).alloc (Nat.le_refl _) _)
    have HO : Hid ((w.alloc (.cells #[] 34)).ownsRow w.heap.size 34 4 (.slice (some ⟨w.heap.size, 0, none⟩) 0 0) 0 [] ∧ Below w.heap.size w (w.alloc (.cells #[] 34))) := ⟨empty_row w 34 4 w.heap.size (Nat.le_refl _) _ rfl, (Below.refl _ _).alloc (Nat.le_refl _) _⟩
    clear h
    go_enter Try.func28, Try.ntmps28
    go_wp2_with (at_builtin; refine wpList_append_opt rfl _ _ 22 rfl w.heap.size 34 i0 _ 4 32 Try.underlying22 hi hz0 hz1 hz2 rfl (by decide) (.slice (some ⟨w.heap.size, 0, none⟩) 0 0) 0 [] rfl HO.out.1 (some sa) n sc xs rfl HS.out (by unfold maxLen; omega) (by omega) HO.out.2.size ?_)
    intro v' w5 ho hg
    obtain ⟨ao5, c5, rfl⟩ := owned_shape ho
    have HN : Hid (w5.ownsRow w.heap.size 34 4 (.slice ao5 n c5) n xs ∧ Below w.heap.size w w5) := ⟨by simpa using ho, HO.out.2.grown hg HO.out.2.size (fun k hk => by simp [Value.ownBlock] at hk; omega)⟩
    clear ho hg
    go_wp2
    go_ret
    exact ⟨ao5, c5, by simp, HN.out⟩
set_option maxRecDepth 20000 in
set_option maxHeartbeats 1000000 in
theorem cloneI_calls (xs : List Value) (ao : Option Addr) (n sc : Nat) (w : World) (h : SrcAt w ao n 1 xs) (hs : n ≤ 100000) :
    Calls Try.prog 29 #[.slice ao n sc] w fun e w' => RowPost 3 1 n xs w e w' := by
  obtain ⟨i0, hi, hz0, hz1, hz2⟩ := info_parts info3
  have q : ∀ (w : World) (a : Option Addr) (n c n' c' : Nat), (binOp .eql 23 (.slice a n c) (.slice none n' c')).run Try.prog w = .ok (.bool a.isNone) w := fun w a n c n' c' => Lib.run_eql_slice_nil w _ _ a n c n' c' Try.underlying23
  cases ao with
  | none =>
    have h0 : n = 0 ∧ xs = [] := by
      rcases h.2.2 with ⟨_, e⟩ | ⟨ad, e, _⟩
      · subst e; exact ⟨rfl, List.length_eq_zero_iff.1 (by rw [h.1])⟩
      · cases e
    obtain ⟨rfl, rfl⟩ := h0
    clear h
    go_enter Try.func29, Try.ntmps29
    go_wp2
    go_ret
    exact ⟨none, 0, rfl, none_row _ _ _ _, Below.refl _ _⟩
  | some sa =>
    have HS : Hid (SrcAt (w.alloc (.cells #[] 3)) (some sa) n 1 xs) := h.below ((Below.refl _ _).alloc (Nat.le_refl _) _)
    have HO : Hid ((w.alloc (.cells #[] 3)).ownsRow w.heap.size 3 1 (.slice (some ⟨w.heap.size, 0, none⟩) 0 0) 0 [] ∧ Below w.heap.size w (w.alloc (.cells #[] 3))) := ⟨empty_row w 3 1 w.heap.size (Nat.le_refl _) _ rfl, (Below.refl _ _).alloc (Nat.le_refl _) _⟩
    clear h
    go_enter Try.func29, Try.ntmps29
    go_wp2_with (at_builtin; refine wpList_append_opt rfl _ _ 23 rfl w.heap.size 3 i0 _ 1 8 Try.underlying23 hi hz0 hz1 hz2 rfl (by decide) (.slice (some ⟨w.heap.size, 0, none⟩) 0 0) 0 [] rfl HO.out.1 (some sa) n sc xs rfl HS.out (by unfold maxLen; omega) (by omega) HO.out.2.size ?_)
    intro v' w5 ho hg
    obtain ⟨ao5, c5, rfl⟩ := owned_shape ho
    have HN : Hid (w5.ownsRow w.heap.size 3 1 (.slice ao5 n c5) n xs ∧ Below w.heap.size w w5) := ⟨by simpa using ho, HO.out.2.grown hg HO.out.2.size (fun k hk => by simp [Value.ownBlock] at hk; omega)⟩
    clear ho hg
    go_wp2
    go_ret
    exact ⟨ao5, c5, by simp, HN.out⟩
set_option maxRecDepth 20000 in
set_option maxHeartbeats 1000000 in
theorem cloneS_calls (xs : List Value) (ao : Option Addr) (n sc : Nat) (w : World) (h : SrcAt w ao n 2 xs) (hs : n ≤ 100000) :
    Calls Try.prog 30 #[.slice ao n sc] w fun e w' => RowPost 39 2 n xs w e w' := by
  obtain ⟨i0, hi, hz0, hz1, hz2⟩ := info_parts info52
  have q : ∀ (w : World) (a : Option Addr) (n c n' c' : Nat), (binOp .eql 24 (.slice a n c) (.slice none n' c')).run Try.prog w = .ok (.bool a.isNone) w := fun w a n c n' c' => Lib.run_eql_slice_nil w _ _ a n c n' c' Try.underlying24
  cases ao with
  | none =>
    have h0 : n = 0 ∧ xs = [] := by
      rcases h.2.2 with ⟨_, e⟩ | ⟨ad, e, _⟩
      · subst e; exact ⟨rfl, List.length_eq_zero_iff.1 (by rw [h.1])⟩
      · cases e
    obtain ⟨rfl, rfl⟩ := h0
    clear h
    go_enter Try.func30, Try.ntmps30
    go_wp2
    go_ret
    exact ⟨none, 0, rfl, none_row _ _ _ _, Below.refl _ _⟩
  | some sa =>
    have HS : Hid (SrcAt (w.alloc (.cells #[] 39)) (some sa) n 2 xs) := h.below ((Below.refl _ _).alloc (Nat.le_refl _) _)
    have HO : Hid ((w.alloc (.cells #[] 39)).ownsRow w.heap.size 39 2 (.slice (some ⟨w.heap.size, 0, none⟩) 0 0) 0 [] ∧ Below w.heap.size w (w.alloc (.cells #[] 39))) := ⟨empty_row w 39 2 w.heap.size (Nat.le_refl _) _ rfl, (Below.refl _ _).alloc (Nat.le_refl _) _⟩
    clear h
    go_enter Try.func30, Try.ntmps30
    go_wp2_with (at_builtin; refine wpList_append_opt rfl _ _ 24 rfl w.heap.size 39 i0 _ 2 32 Try.underlying24 hi hz0 hz1 hz2 rfl (by decide) (.slice (some ⟨w.heap.size, 0, none⟩) 0 0) 0 [] rfl HO.out.1 (some sa) n sc xs rfl HS.out (by unfold maxLen; omega) (by omega) HO.out.2.size ?_)
    intro v' w5 ho hg
    obtain ⟨ao5, c5, rfl⟩ := owned_shape ho
    have HN : Hid (w5.ownsRow w.heap.size 39 2 (.slice ao5 n c5) n xs ∧ Below w.heap.size w w5) := ⟨by simpa using ho, HO.out.2.grown hg HO.out.2.size (fun k hk => by simp [Value.ownBlock] at hk; omega)⟩
    clear ho hg
    go_wp2
    go_ret
    exact ⟨ao5, c5, by simp, HN.out⟩
set_option maxRecDepth 20000 in
set_option maxHeartbeats 1000000 in
theorem cloneE_calls (xs : List Value) (ao : Option Addr) (n sc : Nat) (w : World) (h : SrcAt w ao n 2 xs) (hs : n ≤ 100000) :
    Calls Try.prog 31 #[.slice ao n sc] w fun e w' => RowPost 42 2 n xs w e w' := by
  obtain ⟨i0, hi, hz0, hz1, hz2⟩ := info_parts info54
  have q : ∀ (w : World) (a : Option Addr) (n c n' c' : Nat), (binOp .eql 37 (.slice a n c) (.slice none n' c')).run Try.prog w = .ok (.bool a.isNone) w := fun w a n c n' c' => Lib.run_eql_slice_nil w _ _ a n c n' c' Try.underlying37
  cases ao with
  | none =>
    have h0 : n = 0 ∧ xs = [] := by
      rcases h.2.2 with ⟨_, e⟩ | ⟨ad, e, _⟩
      · subst e; exact ⟨rfl, List.length_eq_zero_iff.1 (by rw [h.1])⟩
      · cases e
    obtain ⟨rfl, rfl⟩ := h0
    clear h
    go_enter Try.func31, Try.ntmps31
    go_wp2
    go_ret
    exact ⟨none, 0, rfl, none_row _ _ _ _, Below.refl _ _⟩
  | some sa =>
    have HS : Hid (SrcAt (w.alloc (.cells #[] 42)) (some sa) n 2 xs) := h.below ((Below.refl _ _).alloc (Nat.le_refl _) _)
    have HO : Hid ((w.alloc (.cells #[] 42)).ownsRow w.heap.size 42 2 (.slice (some ⟨w.heap.size, 0, none⟩) 0 0) 0 [] ∧ Below w.heap.size w (w.alloc (.cells #[] 42))) := ⟨empty_row w 42 2 w.heap.size (Nat.le_refl _) _ rfl, (Below.refl _ _).alloc (Nat.le_refl _) _⟩
    clear h
    go_enter Try.func31, Try.ntmps31
    go_wp2_with (at_builtin; refine wpList_append_opt rfl _ _ 37 rfl w.heap.size 42 i0 _ 2 16 Try.underlying37 hi hz0 hz1 hz2 rfl (by decide) (.slice (some ⟨w.heap.size, 0, none⟩) 0 0) 0 [] rfl HO.out.1 (some sa) n sc xs rfl HS.out (by unfold maxLen; omega) (by omega) HO.out.2.size ?_)
    intro v' w5 ho hg
    obtain ⟨ao5, c5, rfl⟩ := owned_shape ho
    have HN : Hid (w5.ownsRow w.heap.size 42 2 (.slice ao5 n c5) n xs ∧ Below w.heap.size w w5) := ⟨by simpa using ho, HO.out.2.grown hg HO.out.2.size (fun k hk => by simp [Value.ownBlock] at hk; omega)⟩
    clear ho hg
    go_wp2
    go_ret
    exact ⟨ao5, c5, by simp, HN.out⟩
end Go.Proofs.Ytolehoibpnenlab
