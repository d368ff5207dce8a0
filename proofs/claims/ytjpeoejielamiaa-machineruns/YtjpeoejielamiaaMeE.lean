/-
  A list of arrows cloned.
-/
import Derived.Lib.SliceRun
import Derived.Test.YtjpeoejielamiaaKk
import Derived.Test.YtjpeoejielamiaaVdI
namespace Go.Proofs.Ytjpeoejielamiaa
open Go.RowKit

theorem info41 : (Try.prog.info? 41).map (fun i => (i.zero, i.size, i.bytes)) = some (some (.agg #[.int .i64 0, .int .i64 0, .int .i64 0, .int .i64 0]), 4, 32) := by kernel_rfl
theorem empty_row (W : World) (e : TypeId) (size base : Nat) (hb : base ≤ W.heap.size) (g : Nat) (hg : g = W.heap.size) : (W.alloc (.cells #[] e)).ownsRow base e size (.slice (some ⟨g, 0, none⟩) 0 0) 0 [] := by
  subst hg
  refine ⟨by simp, .inr ⟨W.heap.size, 0, #[], rfl, hb, heap_alloc_new W _, ?_⟩⟩
  simp [maxLen]
/-- A row of arrows of the caller's own. -/
def ArPost (l : List Qd) (w : World) (e : Ending) (w' : World) : Prop := ∃ ao cap, e = .returned (.slice ao l.length cap) ∧ w'.ownsRow w.heap.size 41 4 (.slice ao l.length cap) l.length (qdVals l) ∧ Below w.heap.size w w'
theorem QdsAt.src {w : World} {ao : Option Addr} {n : Nat} {l : List Qd} (h : QdsAt w ao n l) : SrcAt w ao n 4 (qdVals l) := by
  refine ⟨by rw [qdVals_length, h.length], fun u hu => ?_, ?_⟩
  · unfold qdVals at hu
    rw [List.mem_flatMap] at hu
    obtain ⟨q, _, hq⟩ := hu
    simp only [qdCells, List.mem_cons, List.not_mem_nil, or_false] at hq
    rcases hq with rfl | rfl | rfl | rfl <;> rfl
  · rcases Nat.eq_zero_or_pos n with h0 | h0
    · have hl : l = [] := List.eq_nil_of_length_eq_zero (by rw [h.length]; exact h0)
      cases ao with
      | none => exact .inl ⟨rfl, h0⟩
      | some ad => exact .inr ⟨ad, rfl, fun j u hj => by rw [hl] at hj; simp [qdVals] at hj⟩
    · obtain ⟨b, off, e, hc⟩ := h.cells h0
      exact .inr ⟨_, e, fun j u hj => h.source _ e j u hj⟩
set_option maxRecDepth 20000 in
set_option maxHeartbeats 1000000 in
theorem cloneA_calls (l : List Qd) (ao : Option Addr) (n sc : Nat) (w : World) (h : QdsAt w ao n l) (hs : n ≤ 100000) :
    Calls Try.prog 45 #[.slice ao n sc] w (ArPost l w) := by
  obtain ⟨i0, hi, hz0, hz1, hz2⟩ := info_parts info41
  have q : ∀ (w : World) (a : Option Addr) (n c n' c' : Nat), (binOp .eql 24 (.slice a n c) (.slice none n' c')).run Try.prog w = .ok (.bool a.isNone) w := fun w a n c n' c' => Lib.run_eql_slice_nil w _ _ a n c n' c' Try.underlying24
  have hl := h.length
  cases ao with
  | none =>
    have h0 : n = 0 := by
      rcases Nat.eq_zero_or_pos n with e | e
      · exact e
      · obtain ⟨_, _, e', _⟩ := h.cells e; cases e'
    subst h0
    have hl0 : l = [] := List.eq_nil_of_length_eq_zero hl
    subst hl0
    clear h hl
    go_enter Try.func45, Try.ntmps45
    go_wp2
    go_ret
    exact ⟨none, 0, rfl, ⟨by simp [qdVals], .inl ⟨rfl, rfl⟩⟩, Below.refl _ _⟩
  | some sa =>
    have HS : Hid (SrcAt (w.alloc (.cells #[] 41)) (some sa) n 4 (qdVals l)) := (h.below (below_new _)).src
    have HO : Hid ((w.alloc (.cells #[] 41)).ownsRow w.heap.size 41 4 (.slice (some ⟨w.heap.size, 0, none⟩) 0 0) 0 [] ∧ Below w.heap.size w (w.alloc (.cells #[] 41))) := ⟨empty_row w 41 4 w.heap.size (Nat.le_refl _) _ rfl, below_new _⟩
    have HL : Hid (l.length = n) := hl
    clear h hl
    go_enter Try.func45, Try.ntmps45
    go_wp2_with (at_builtin; refine wpList_append_opt rfl _ _ 24 rfl w.heap.size 41 i0 _ 4 32 Try.underlying24 hi hz0 hz1 hz2 rfl (by decide) (.slice (some ⟨w.heap.size, 0, none⟩) 0 0) 0 [] rfl HO.out.1 (some sa) n sc (qdVals l) rfl HS.out (by unfold maxLen; omega) (by omega) HO.out.2.size ?_)
    intro v' w5 ho hg
    obtain ⟨ao5, c5, rfl⟩ := owned_shape ho
    have HN : Hid (w5.ownsRow w.heap.size 41 4 (.slice ao5 n c5) n (qdVals l) ∧ Below w.heap.size w w5) := ⟨by simpa using ho, HO.out.2.grown hg HO.out.2.size (fun k hk => by simp [Value.ownBlock] at hk; omega)⟩
    clear ho hg
    go_wp2
    go_ret
    exact ⟨ao5, c5, by rw [HL.out]; simp, by rw [HL.out]; exact HN.out.1, HN.out.2⟩
/-- Rows of a call's own can be read. -/
theorem ar_at {w w' : World} {base : Nat} {ao : Option Addr} {n cap : Nat} {l : List Qd} (h : w.ownsRow base 41 4 (.slice ao n cap) n (qdVals l)) (hb : Below w.heap.size w w') : QdsAt w' ao n l := (qds_owned h).below hb
end Go.Proofs.Ytjpeoejielamiaa
