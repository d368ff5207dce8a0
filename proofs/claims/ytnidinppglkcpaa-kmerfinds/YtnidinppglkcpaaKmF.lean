/-
  Find, Size, K.
-/
import Derived.Test.YtnidinppglkcpaaKmM
import Derived.Lib.SliceRun
import Derived.OwnWalk
namespace Go.Proofs.Ytnidinppglkcpaa
open Go.RowKit Go.Maps

theorem info46 : (Try.prog.info? 46).map (fun i => (i.zero, i.size, i.bytes)) = some (some (.agg #[.int .i64 0, .int .i64 0]), 2, 16) := by kernel_rfl
def PlPost (l : List Pl) (w : World) (e : Ending) (w' : World) : Prop := ∃ v, e = .returned v ∧ w'.ownsRow w.heap.size 46 2 v l.length (plVals l) ∧ Below w.heap.size w w'
set_option maxRecDepth 20000 in
set_option maxHeartbeats 1000000 in
theorem clone_calls {base : Nat} (l : List Pl) (v : Value) (w : World) (h : w.ownsRow base 46 2 v l.length (plVals l)) (hs : l.length ≤ 2147483648) :
    Calls Try.prog 30 #[v] w (PlPost l w) := by
  obtain ⟨i0, hi, hz0, hz1, hz2⟩ := info_parts info46
  have q : ∀ (w : World) (a : Option Addr) (n c n' c' : Nat), (binOp .eql 42 (.slice a n c) (.slice none n' c')).run Try.prog w = .ok (.bool a.isNone) w := fun w a n c n' c' => Lib.run_eql_slice_nil w _ _ a n c n' c' Try.underlying42
  rcases h.2 with ⟨rfl, h0⟩ | ⟨g, cap, cur, rfl, hb, hg, h1, h2, h3, h4⟩
  · have hl0 : l = [] := List.eq_nil_of_length_eq_zero h0
    subst hl0
    clear h
    go_enter Try.func30, Try.ntmps30
    go_wp2
    go_ret
    exact ⟨_, rfl, World.ownsRow_nil _ _ _ _, Below.refl _ _⟩
  · have HC : Hid (∀ j u, (plVals l)[j]? = some u → w.cell? ⟨g, j, none⟩ = some u) := fun j u hj => (owned_cells h j u hj).1
    have HS : Hid (l.length ≤ 2147483648) := hs
    clear h hg h4 h3
    go_enter Try.func30, Try.ntmps30
    go_wp2_with (at_builtin; refine wpList_append_own _ rfl _ _ 42 rfl w.heap.size 46 i0 _ 2 16 Try.underlying42 hi hz0 hz1 hz2 rfl (by decide) _ _ _ rfl (World.ownsRow_made w #[] 0 (Nat.le_refl _) (Nat.zero_le _) (by simp)) ⟨g, 0, none⟩ l.length cap (plVals l) rfl (plVals_length l) ?qc2 (pl_one l) ?qc4 ?qc5 ?qc6 ?_)
    case qc2 =>
      intro j u hj
      rw [Addr.add_lit, Nat.zero_add]
      exact Lib.cell?_alloc_some _ (HC.out j u hj)
    case qc4 => have := HS.out; unfold maxLen; omega
    case qc5 => have := HS.out; omega
    case qc6 => simp
    intro v' w1 hown hgrow hnil
    go_wp2
    go_ret
    refine ⟨v', rfl, by simpa using hown, ?_⟩
    exact ((Below.refl _ w).alloc (Nat.le_refl _) _).grown hgrow (by simp) (by intro k hk; simp [Value.ownBlock] at hk; omega)
set_option maxRecDepth 20000 in
theorem stand_calls {w : World} {base x mb : Nat} {k : Int} {L : List Oc} {f : Wd → Value} (h : IxAt w base x mb k L f) (s : Wd) (hs : s.length ≤ maxLen) (hL : L.length < 2147483648) :
    Calls Try.prog 26 #[.pointer (some ⟨x, 0, none⟩), .string (bs s)] w (PlPost (plsOf L s) w) := by
  have hc := h.c0
  have hl := h.mp.look s hs (W := w) rfl
  have hr := clone_calls _ _ w (h.mp.rows s) (by have := pls_len L s; omega)
  generalize f s = v at hl hr
  clear h
  go_enter Try.func26, Try.ntmps26
  go_wp2_with (first
    | (go_at_call 30; refine hr.mono ?_; rintro e w' ⟨v', rfl, ho, hb⟩)
    | go_in)
  go_ret
  exact ⟨v', rfl, ho, hb⟩
def FindPost (k : Int) (L : List Oc) (s : Wd) (w : World) (e : Ending) (w' : World) : Prop :=
  ∃ v, e = .returned (.tuple #[v, .int .i64 (if (s.length : Int) = k then 0 else 210)]) ∧ w'.ownsRow w.heap.size 46 2 v (if (s.length : Int) = k then plsOf L s else []).length (plVals (if (s.length : Int) = k then plsOf L s else [])) ∧ Below w.heap.size w w'
set_option maxRecDepth 20000 in
theorem find_calls {w : World} {base x mb : Nat} {k : Int} {L : List Oc} {f : Wd → Value} (h : IxAt w base x mb k L f) (s : Wd) (hs : s.length ≤ maxLen) (hL : L.length < 2147483648) :
    Calls Try.prog 18 #[.pointer (some ⟨x, 0, none⟩), .string (bs s)] w (FindPost k L s w) := by
  have hc := h.c2
  have hr := stand_calls h s hs hL
  have hz := bs_size s
  clear h
  unfold FindPost
  by_cases hk : (s.length : Int) = k
  · have hb : (((bs s).size : Int) != k) = false := by rw [hz]; simp [hk]
    rw [if_pos hk, if_pos hk]
    go_enter Try.func18, Try.ntmps18
    go_wp2_with (first
      | (go_at_call 26; refine hr.mono ?_; rintro e w' ⟨v', rfl, ho, hb⟩)
      | go_in)
    go_ret2
    exact ⟨v', rfl, ho, hb⟩
  · have hb : (((bs s).size : Int) != k) = true := by rw [hz]; simpa using hk
    rw [if_neg hk, if_neg hk]
    clear hr
    go_enter Try.func18, Try.ntmps18
    go_wp2
    go_ret2
    exact ⟨_, rfl, World.ownsRow_nil _ _ _ _, Below.refl _ _⟩
theorem size_calls {w : World} {base x mb : Nat} {k : Int} {L : List Oc} {f : Wd → Value} (h : IxAt w base x mb k L f) :
    Calls Try.prog 12 #[.pointer (some ⟨x, 0, none⟩)] w fun e w' => e = .returned (.int .i64 L.length) ∧ w' = w := by
  have hc := h.c1
  clear h
  go_enter Try.func12, Try.ntmps12
  go_wp2
  go_ret
  exact ⟨rfl, rfl⟩
theorem k_calls {w : World} {base x mb : Nat} {k : Int} {L : List Oc} {f : Wd → Value} (h : IxAt w base x mb k L f) :
    Calls Try.prog 13 #[.pointer (some ⟨x, 0, none⟩)] w fun e w' => e = .returned (.int .i64 k) ∧ w' = w := by
  have hc := h.c2
  clear h
  go_enter Try.func13, Try.ntmps13
  go_wp2
  go_ret
  exact ⟨rfl, rfl⟩
end Go.Proofs.Ytnidinppglkcpaa
