/-
  The walks of strings.Builder's methods that write, in this program.
-/
import Derived.Test.YtignpgoicoojiaaDoorShelf
import Derived.Test.YtignpgoicoojiaaDoorWrG
namespace Go.Proofs.YtignpgoicoojiaaDoor
open Go.RowKit

theorem info72b : (Tryd.prog.info? 72).map (·.size) = some 2 := by kernel_rfl
theorem lies72 : liesAt Tryd.prog Tryd.prog.depth 72 (2 / Tryd.prog.cellsOf 72) 0 72 1 = true := by kernel_rfl

set_option maxRecDepth 10000 in
set_option maxHeartbeats 1000000 in
theorem copyCheck_used (b : Nat) (w : World) (h0 : w.cell? ⟨b, 0, none⟩ = some (.pointer (some ⟨b, 0, none⟩))) :
    Calls Tryd.prog 59 #[.pointer (some ⟨b, 0, none⟩)] w fun e w' => e = .returned (.tuple #[]) ∧ w' = w := by
  obtain ⟨j, hj, _⟩ := Option.map_eq_some_iff.1 info72b
  go_enter Tryd.func59, Tryd.ntmps59
  go_wp2
  rw [Lib.run_neq_ptr_same w _ Tryd.underlying70 hj]
  go_wp2
  go_end0
  exact ⟨rfl, rfl⟩

set_option maxRecDepth 10000 in
set_option maxHeartbeats 1000000 in
theorem copyCheck_fresh (b : Nat) (w : World) (h0 : w.cell? ⟨b, 0, none⟩ = some (.pointer none)) (hsh : w.shape? b = some (72, 2)) (hfz : w.frozen? ⟨b, 0, none⟩ = false) :
    Calls Tryd.prog 59 #[.pointer (some ⟨b, 0, none⟩)] w fun e w' => e = .returned (.tuple #[]) ∧ w' = w.setCell ⟨b, 0, none⟩ (.pointer (some ⟨b, 0, none⟩)) := by
  obtain ⟨j, hj, hjs⟩ := Option.map_eq_some_iff.1 info72b
  go_enter Tryd.func59, Tryd.ntmps59
  go_wp2
  rw [Lib.run_to_unsafe w ⟨b, 0, none⟩ Tryd.underlying70 Tryd.underlying93 hj (by rw [hjs]; decide) hsh (Nat.zero_lt_succ 1)]
  simp only [Result.andThen]
  rw [Oper.upon_value]
  go_wp2
  rw [run_callFunc_extern Tryd.func65 (by kernel_rfl) (by kernel_rfl) (by kernel_rfl) (e := Extern.AbiNoEscape.same) (by kernel_rfl)]
  rw [Lib.run_noEscape]
  simp only [Result.andThen]
  rw [Oper.upon_value]
  go_wp2
  rw [Lib.run_from_unsafe w ⟨b, 0, none⟩ Tryd.underlying93 Tryd.underlying70 hj hsh lies72]
  simp only [Result.andThen]
  rw [Oper.upon_value]
  go_wp2
  go_end0
  exact ⟨rfl, rfl⟩

/-- Blocks that hold sequences stay as they are. -/
def Keep (w w' : World) : Prop := ∀ (g : Nat) (cs : Array Value) (t : TypeId) (f : Nat × Nat), (t = 38 ∨ t = 9) → w.heap[g]? = some (.cells cs t f) → w'.heap[g]? = some (.cells cs t f)
theorem Keep.refl (w : World) : Keep w w := fun _ _ _ _ _ h => h
theorem Keep.trans {a b c : World} (h : Keep a b) (k : Keep b c) : Keep a c := fun g cs t f ht hg => k g cs t f ht (h g cs t f ht hg)
theorem Keep.alloc {a w : World} (h : Keep a w) (o : Obj) : Keep a (w.alloc o) := fun g cs t f ht hg => by
  rw [((Below.refl w.heap.size w).alloc (Nat.le_refl _) o).block g (lt_block (h g cs t f ht hg))]; exact h g cs t f ht hg
theorem Keep.setCell {a w : World} (h : Keep a w) {b i : Nat} {cs : Array Value} {t : TypeId} {f : Nat × Nat} (hb : w.heap[b]? = some (.cells cs t f)) (ht : ¬ (t = 38 ∨ t = 9)) (u : Value) : Keep a (w.setCell ⟨b, i, none⟩ u) := fun g cs' t' f' ht' hg => by
  rw [Below.heap_setCell w _ u g (fun e => by
    have e' : g = b := e
    have h1 := h g cs' t' f' ht' hg
    rw [e', hb] at h1; cases h1; exact ht ht')]
  exact h g cs' t' f' ht' hg
theorem Keep.grown {a w w' : World} (h : Keep a w) {B n size : Nat} {t : TypeId} {v : Value} {xs : List Value} (ho : w.ownsRow B t size v n xs) (ht : ¬ (t = 38 ∨ t = 9)) (hg : w.grownBy w' v.ownBlock) : Keep a w' := fun g cs t' f ht' hc => by
  have h1 := h g cs t' f ht' hc
  rw [hg.block g (lt_block h1) (fun e' => by
    rcases ho.2 with ⟨hv, _⟩ | ⟨g', cap', cur', hv, _, hg', _⟩
    · rw [hv] at e'; cases e'
    · rw [hv] at e'; simp [Value.ownBlock] at e'; subst e'; rw [hg'] at h1; cases h1; exact ht ht')]
  exact h1

theorem copyCheck_calls (B b : Nat) (bs : List Value) (w : World) (h : Lib.IsBuilder 72 5 B b bs w) :
    Calls Tryd.prog 59 #[.pointer (some ⟨b, 0, none⟩)] w fun e w' => e = .returned (.tuple #[]) ∧ (Lib.BuilderAt 72 5 B b (.pointer (some ⟨b, 0, none⟩)) bs w' ∧ Below B w w' ∧ Keep w w') := by
  rcases h with h | h
  · refine (copyCheck_fresh b w h.cell0 h.shape h.frozen0).mono ?_
    rintro e w' ⟨rfl, rfl⟩
    obtain ⟨v, hbk, _⟩ := h.2
    exact ⟨rfl, Lib.BuilderAt.used h _, (Below.refl B w).setCell (p := ⟨b, 0, none⟩) h.1 _, (Keep.refl w).setCell hbk (by decide) _⟩
  · refine (copyCheck_used b w h.cell0).mono ?_
    rintro e w' ⟨rfl, rfl⟩
    exact ⟨rfl, h, Below.refl B _, Keep.refl _⟩

theorem not_ownB {w : World} {B : Nat} {v : Value} {n b : Nat} {xs : List Value} {cs : Array Value} (ho : w.ownsRow B 5 1 v n xs) (hb : w.heap[b]? = some (.cells cs 72 (0, 0))) : some b ≠ v.ownBlock := by
  intro e'
  rcases ho.2 with ⟨hv, _⟩ | ⟨g', cap', cur', hv, _, hg', _⟩
  · rw [hv] at e'; cases e'
  · rw [hv] at e'; simp [Value.ownBlock] at e'; subst e'; rw [hg'] at hb; cases hb

set_option maxHeartbeats 2000000 in
theorem writeString_calls (B b : Nat) (bs : List Value) (s : ByteArray) (w : World) (h : Lib.IsBuilder 72 5 B b bs w) (hlen : bs.length + s.size ≤ 140737488355328) (hBw : B ≤ w.heap.size) :
    Calls Tryd.prog 47 #[.pointer (some ⟨b, 0, none⟩), .string s] w fun e w' => e = .returned (.tuple #[.int .i64 s.size, .nilIface]) ∧ Lib.IsBuilder 72 5 B b (bs ++ Lib.strCells s) w' ∧ Below B w w' ∧ Keep w w' := by
  obtain ⟨i0, hi, hz0, hz1, hz2⟩ := info_parts info5
  have HC : Hid (Calls Tryd.prog 59 #[.pointer (some ⟨b, 0, none⟩)] w fun e w' => e = .returned (.tuple #[]) ∧ (Lib.BuilderAt 72 5 B b (.pointer (some ⟨b, 0, none⟩)) bs w' ∧ Below B w w' ∧ Keep w w')) := copyCheck_calls B b bs w h
  clear h
  go_enter Tryd.func47, Tryd.ntmps47
  go_wp2_with fail
  refine HC.out.mono ?_
  rintro e w1 ⟨rfl, ⟨hB, v, hbk, hown, hne⟩, hb1, hk1⟩
  obtain ⟨ao, cap, rfl⟩ := owned_shape hown
  have hc1 : w1.cell? ⟨b, 1, none⟩ = some (.slice ao bs.length cap) := by rw [Lib.cell_of_heap hbk]; rfl
  have hBw1 : B ≤ w1.heap.size := Nat.le_trans hBw hb1.size
  have HO : Hid (w1.ownsRow B 5 1 (.slice ao bs.length cap) bs.length bs) := hown
  have HK : Hid (w1.heap[b]? = some (.cells #[.pointer (some ⟨b, 0, none⟩), .slice ao bs.length cap] 72 (0, 0))) := hbk
  have HB1 : Hid (Below B w w1) := hb1
  have HK1 : Hid (Keep w w1) := hk1
  clear hk1
  clear hown hbk hb1 HC hne
  generalize hn : bs.length = n at *
  have HN : Hid (bs.length = n) := hn
  clear hn
  go_wp2_with (at_builtin; go_loud (refine Lib.wpList_append_own_string _ rfl _ _ 42 9 rfl B 5 i0 Tryd.underlying42 Tryd.underlying9 hi hz0 hz1 hz2 _ _ _ rfl HO.out s rfl ?c1 ?c2 ?c3 ?_))
  case c1 => unfold maxLen; omega
  case c2 => omega
  case c3 => omega
  intro v' w2 hown' hgrow _
  obtain ⟨ao2, cap2, rfl⟩ := owned_shape hown'
  have hbk2 : w2.heap[b]? = some (.cells #[.pointer (some ⟨b, 0, none⟩), .slice ao n cap] 72 (0, 0)) := by
    rw [hgrow.block b (lt_block HK.out) (not_ownB HO.out HK.out)]; exact HK.out
  have hc2 : w2.cell? ⟨b, 1, none⟩ = some (.slice ao n cap) := by rw [Lib.cell_of_heap hbk2]; rfl
  have hf2 : w2.frozen? ⟨b, 1, none⟩ = false := Lib.frozen_of_heap hbk2 1
  have HZ : Hid (Lib.IsBuilder 72 5 B b (bs ++ Lib.strCells s) (w2.setCell ⟨b, 1, none⟩ (.slice ao2 (n + s.size) cap2))) := by
    refine .inr (Lib.BuilderAt.put hB hbk2 ?_ (by decide))
    rw [List.length_append, HN.out, Lib.strCells_length]; exact hown'
  have HZ2 : Hid (Below B w (w2.setCell ⟨b, 1, none⟩ (.slice ao2 (n + s.size) cap2))) := (HB1.out.grown hgrow hBw1 (fun k hk => (HO.out.lt k hk).1)).setCell (p := ⟨b, 1, none⟩) hB _
  have HZ3 : Hid (Keep w (w2.setCell ⟨b, 1, none⟩ (.slice ao2 (n + s.size) cap2))) := (HK1.out.grown HO.out (by decide) hgrow).setCell hbk2 (by decide) _
  clear hown' hgrow hbk2 HO HK HB1 hc1 HK1
  go_wp2
  go_ret2
  exact ⟨rfl, HZ.out, HZ2.out, HZ3.out⟩

end Go.Proofs.YtignpgoicoojiaaDoor
