/-
  The contract of strconv.Itoa, laid at this program's numbers (by the library's own command). The walks of strings.Builder's methods over a sheet. Words are laid down on a sheet; how firm an expression is; signs and words.
-/
import Derived.Shelf.LaysM
import Derived.Shelf.Strconv.Itoa3
import Derived.Test.YtpeldiibjhffiaaDoorProg
import Derived.Shelf.Strings.Builder1
import Derived.Test.YtpeldiibjhffiaaDoorG00
import Derived.Test.YtpeldiibjhffiaaDoorG16
namespace Go.Proofs
open Go.Shelf
def Tryd.laysM171_ren : Go.Shelf.Ren := ⟨fun | 171 => 45 | 243 => 68 | 246 => 89 | 283 => 93 | 284 => 94 | 285 => 95 | 286 => 96 | 129 => 101 | 317 => 100 | 318 => 102 | 319 => 103 | 320 => 104 | 337 => 110 | 338 => 111 | n => n, fun | 3 => 3 | 9 => 9 | 2 => 2 | 4 => 4 | 171 => 113 | 0 => 0 | 53 => 114 | 37 => 47 | 5 => 5 | 173 => 117 | 212 => 121 | 51 => 122 | 20 => 20 | 213 => 123 | 46 => 125 | 232 => 132 | 233 => 133 | n => n, fun | 17 => 0 | 18 => 2 | 19 => 3 | n => n⟩
theorem Tryd.laysM171 : Go.Proofs.LaysM.n171 Tryd.prog Tryd.laysM171_ren := {
  mixed := by kernel_rfl
  f129 := Tryd.func101.trans (congrArg some (by kernel_rfl))
  f171 := Tryd.func45.trans (congrArg some (by kernel_rfl))
  f243 := Tryd.func68.trans (congrArg some (by kernel_rfl))
  f246 := Tryd.func89.trans (congrArg some (by kernel_rfl))
  f283 := Tryd.func93.trans (congrArg some (by kernel_rfl))
  f284 := Tryd.func94.trans (congrArg some (by kernel_rfl))
  f285 := Tryd.func95.trans (congrArg some (by kernel_rfl))
  f286 := Tryd.func96.trans (congrArg some (by kernel_rfl))
  f317 := Tryd.func100.trans (congrArg some (by kernel_rfl))
  f318 := Tryd.func102.trans (congrArg some (by kernel_rfl))
  f319 := Tryd.func103.trans (congrArg some (by kernel_rfl))
  f320 := Tryd.func104.trans (congrArg some (by kernel_rfl))
  f337 := Tryd.func110.trans (congrArg some (by kernel_rfl))
  f338 := Tryd.func111.trans (congrArg some (by kernel_rfl))
  t0 := Tryd.underlying0
  a0 := Tryd.isAgg0
  z0 := Tryd.sizeOf0
  v0 := Tryd.zeroValue0
  t2 := Tryd.underlying2
  a2 := Tryd.isAgg2
  z2 := Tryd.sizeOf2
  v2 := Tryd.zeroValue2
  t3 := Tryd.underlying3
  a3 := Tryd.isAgg3
  z3 := Tryd.sizeOf3
  v3 := Tryd.zeroValue3
  t4 := Tryd.underlying4
  a4 := Tryd.isAgg4
  z4 := Tryd.sizeOf4
  v4 := Tryd.zeroValue4
  t5 := Tryd.underlying5
  a5 := Tryd.isAgg5
  z5 := Tryd.sizeOf5
  v5 := Tryd.zeroValue5
  t9 := Tryd.underlying9
  a9 := Tryd.isAgg9
  z9 := Tryd.sizeOf9
  v9 := Tryd.zeroValue9
  t20 := Tryd.underlying20
  a20 := Tryd.isAgg20
  z20 := Tryd.sizeOf20
  v20 := Tryd.zeroValue20
  t37 := Tryd.underlying47
  a37 := Tryd.isAgg47
  z37 := Tryd.sizeOf47
  v37 := Tryd.zeroValue47
  t46 := Tryd.underlying125
  a46 := Tryd.isAgg125
  z46 := Tryd.sizeOf125
  v46 := Tryd.zeroValue125
  t51 := Tryd.underlying122
  a51 := Tryd.isAgg122
  z51 := Tryd.sizeOf122
  v51 := Tryd.zeroValue122
  t53 := Tryd.underlying114
  a53 := Tryd.isAgg114
  z53 := Tryd.sizeOf114
  v53 := Tryd.zeroValue114
  t171 := Tryd.underlying113
  a171 := Tryd.isAgg113
  z171 := Tryd.sizeOf113
  v171 := Tryd.zeroValue113
  t173 := Tryd.underlying117
  a173 := Tryd.isAgg117
  z173 := Tryd.sizeOf117
  v173 := Tryd.zeroValue117
  t212 := Tryd.underlying121
  a212 := Tryd.isAgg121
  z212 := Tryd.sizeOf121
  v212 := Tryd.zeroValue121
  t213 := Tryd.underlying123
  a213 := Tryd.isAgg123
  z213 := Tryd.sizeOf123
  t232 := Tryd.underlying132
  a232 := Tryd.isAgg132
  z232 := Tryd.sizeOf132
  v232 := Tryd.zeroValue132
  t233 := Tryd.underlying133
  a233 := Tryd.isAgg133
  z233 := Tryd.sizeOf133
  v233 := Tryd.zeroValue133
  g17 := by kernel_rfl
  g18 := by kernel_rfl
  g19 := by kernel_rfl
  i0 := by kernel_rfl
  i2 := by kernel_rfl
  i3 := by kernel_rfl
  i4 := by kernel_rfl
  i5 := by kernel_rfl
  i9 := by kernel_rfl
  i20 := by kernel_rfl
  i37 := by kernel_rfl
  i46 := by kernel_rfl
  i51 := by kernel_rfl
  i53 := by kernel_rfl
  i171 := by kernel_rfl
  i173 := by kernel_rfl
  i212 := by kernel_rfl
  i232 := by kernel_rfl
  i233 := by kernel_rfl
  m17 := by kernel_rfl
  m18 := by kernel_rfl
  m19 := by kernel_rfl }
open Go.RowKit Go.Sort Go.Lib in
theorem Tryd.strconv_Itoa (n : Int) (h0 : -9223372036854775808 ≤ n) (h1 : n ≤ 9223372036854775807) (w : World) (htab : Lib.TabIs Tryd.prog w "internal/strconv.uint64pow10" .u64 Lib.pow10Tab) :
    Calls Tryd.prog 45 #[.int .i64 n] w fun e w' => e = .returned (.string ⟨(Lib.itoa n).toArray⟩) ∧ ∃ k os, w' = grow (w.drewN k) os := Any.strconv_Itoa Tryd.laysM171 n h0 h1 w htab
end Go.Proofs
namespace Go.Proofs.YtpeldiibjhffiaaDoor
open Go.RowKit

theorem info5 : (Tryd.prog.info? 5).map (fun i => (i.zero, i.size, i.bytes)) = some (some (.int .u8 0), 1, 1) := by kernel_rfl
theorem info49 : (Tryd.prog.info? 49).map (·.size) = some 2 := by kernel_rfl
theorem lies49 : liesAt Tryd.prog Tryd.prog.depth 51 (2 / Tryd.prog.cellsOf 51) 0 49 1 = true := by kernel_rfl

set_option maxRecDepth 20000 in
set_option maxHeartbeats 1000000 in
theorem copyCheck_used (b : Nat) (w : World) (h0 : w.cell? ⟨b, 0, none⟩ = some (.pointer (some ⟨b, 0, none⟩))) :
    Calls Tryd.prog 49 #[.pointer (some ⟨b, 0, none⟩)] w fun e w' => e = .returned (.tuple #[]) ∧ w' = w := by
  obtain ⟨j, hj, _⟩ := Option.map_eq_some_iff.1 info49
  go_enter Tryd.func49, Tryd.ntmps49
  go_wp2
  rw [Lib.run_neq_ptr_same w _ Tryd.underlying46 hj]
  go_wp2
  go_end0
  exact ⟨rfl, rfl⟩

set_option maxRecDepth 20000 in
set_option maxHeartbeats 1000000 in
theorem copyCheck_fresh (b : Nat) (w : World) (h0 : w.cell? ⟨b, 0, none⟩ = some (.pointer none)) (hsh : w.shape? b = some (51, 2)) (hfz : w.frozen? ⟨b, 0, none⟩ = false) :
    Calls Tryd.prog 49 #[.pointer (some ⟨b, 0, none⟩)] w fun e w' => e = .returned (.tuple #[]) ∧ w' = w.setCell ⟨b, 0, none⟩ (.pointer (some ⟨b, 0, none⟩)) := by
  obtain ⟨j, hj, hjs⟩ := Option.map_eq_some_iff.1 info49
  go_enter Tryd.func49, Tryd.ntmps49
  go_wp2
  rw [Lib.run_to_unsafe w ⟨b, 0, none⟩ Tryd.underlying46 Tryd.underlying102 hj (by rw [hjs]; decide) hsh (Nat.zero_lt_succ 1)]
  simp only [Result.andThen]
  rw [Oper.upon_value]
  go_wp2
  rw [run_callFunc_extern Tryd.func71 (by kernel_rfl) (by kernel_rfl) (by kernel_rfl) (e := Extern.AbiNoEscape.same) (by kernel_rfl)]
  rw [Lib.run_noEscape]
  simp only [Result.andThen]
  rw [Oper.upon_value]
  go_wp2
  rw [Lib.run_from_unsafe w ⟨b, 0, none⟩ Tryd.underlying102 Tryd.underlying46 hj hsh lies49]
  simp only [Result.andThen]
  rw [Oper.upon_value]
  go_wp2
  go_end0
  exact ⟨rfl, rfl⟩

/-- Blocks that hold neither bytes nor a sheet stay as they are. -/
def Keep (w w' : World) : Prop := ∀ (g : Nat) (cs : Array Value) (t : TypeId) (f : Nat × Nat), (t ≠ 5 ∧ t ≠ 51) → w.heap[g]? = some (.cells cs t f) → w'.heap[g]? = some (.cells cs t f)
theorem Keep.refl (w : World) : Keep w w := fun _ _ _ _ _ h => h
theorem Keep.trans {a b c : World} (h : Keep a b) (k : Keep b c) : Keep a c := fun g cs t f ht hg => k g cs t f ht (h g cs t f ht hg)
theorem Keep.alloc {a w : World} (h : Keep a w) (o : Obj) : Keep a (w.alloc o) := fun g cs t f ht hg => by
  rw [((Below.refl w.heap.size w).alloc (Nat.le_refl _) o).block g (lt_block (h g cs t f ht hg))]; exact h g cs t f ht hg
theorem Keep.setCell {a w : World} (h : Keep a w) {b i : Nat} {cs : Array Value} {t : TypeId} {f : Nat × Nat} (hb : w.heap[b]? = some (.cells cs t f)) (ht : ¬ (t ≠ 5 ∧ t ≠ 51)) (u : Value) : Keep a (w.setCell ⟨b, i, none⟩ u) := fun g cs' t' f' ht' hg => by
  rw [Below.heap_setCell w _ u g (fun e => by
    have e' : g = b := e
    have h1 := h g cs' t' f' ht' hg
    rw [e', hb] at h1; cases h1; exact ht ht')]
  exact h g cs' t' f' ht' hg
theorem Keep.grown {a w w' : World} (h : Keep a w) {B n size : Nat} {t : TypeId} {v : Value} {xs : List Value} (ho : w.ownsRow B t size v n xs) (ht : ¬ (t ≠ 5 ∧ t ≠ 51)) (hg : w.grownBy w' v.ownBlock) : Keep a w' := fun g cs t' f ht' hc => by
  have h1 := h g cs t' f ht' hc
  rw [hg.block g (lt_block h1) (fun e' => by
    rcases ho.2 with ⟨hv, _⟩ | ⟨g', cap', cur', hv, _, hg', _⟩
    · rw [hv] at e'; cases e'
    · rw [hv] at e'; simp [Value.ownBlock] at e'; subst e'; rw [hg'] at h1; cases h1; exact ht ht')]
  exact h1

theorem copyCheck_calls (B b : Nat) (bs : List Value) (w : World) (h : Lib.IsBuilder 51 5 B b bs w) :
    Calls Tryd.prog 49 #[.pointer (some ⟨b, 0, none⟩)] w fun e w' => e = .returned (.tuple #[]) ∧ (Lib.BuilderAt 51 5 B b (.pointer (some ⟨b, 0, none⟩)) bs w' ∧ Below B w w' ∧ Keep w w') := by
  rcases h with h | h
  · refine (copyCheck_fresh b w h.cell0 h.shape h.frozen0).mono ?_
    rintro e w' ⟨rfl, rfl⟩
    obtain ⟨v, hbk, _⟩ := h.2
    exact ⟨rfl, Lib.BuilderAt.used h _, (Below.refl B w).setCell (p := ⟨b, 0, none⟩) h.1 _, (Keep.refl w).setCell hbk (by decide) _⟩
  · refine (copyCheck_used b w h.cell0).mono ?_
    rintro e w' ⟨rfl, rfl⟩
    exact ⟨rfl, h, Below.refl B _, Keep.refl _⟩

theorem not_own {w : World} {B : Nat} {v : Value} {n b : Nat} {xs : List Value} {cs : Array Value} (ho : w.ownsRow B 5 1 v n xs) (hb : w.heap[b]? = some (.cells cs 51 (0, 0))) : some b ≠ v.ownBlock := by
  intro e'
  rcases ho.2 with ⟨hv, _⟩ | ⟨g', cap', cur', hv, _, hg', _⟩
  · rw [hv] at e'; cases e'
  · rw [hv] at e'; simp [Value.ownBlock] at e'; subst e'; rw [hg'] at hb; cases hb

set_option maxRecDepth 20000 in
set_option maxHeartbeats 2000000 in
theorem writeString_calls (B b : Nat) (bs : List Value) (s : ByteArray) (w : World) (h : Lib.IsBuilder 51 5 B b bs w) (hlen : bs.length + s.size ≤ 140737488355328) (hBw : B ≤ w.heap.size) :
    Calls Tryd.prog 32 #[.pointer (some ⟨b, 0, none⟩), .string s] w fun e w' => e = .returned (.tuple #[.int .i64 s.size, .nilIface]) ∧ Lib.IsBuilder 51 5 B b (bs ++ Lib.strCells s) w' ∧ Below B w w' ∧ Keep w w' := by
  obtain ⟨i0, hi, hz0, hz1, hz2⟩ := info_parts info5
  have HC : Hid (Calls Tryd.prog 49 #[.pointer (some ⟨b, 0, none⟩)] w fun e w' => e = .returned (.tuple #[]) ∧ (Lib.BuilderAt 51 5 B b (.pointer (some ⟨b, 0, none⟩)) bs w' ∧ Below B w w' ∧ Keep w w')) := copyCheck_calls B b bs w h
  clear h
  go_enter Tryd.func32, Tryd.ntmps32
  go_wp2_with fail
  refine HC.out.mono ?_
  rintro e w1 ⟨rfl, ⟨hB, v, hbk, hown, hne⟩, hb1, hk1⟩
  obtain ⟨ao, cap, rfl⟩ := owned_shape hown
  have hc1 : w1.cell? ⟨b, 1, none⟩ = some (.slice ao bs.length cap) := by rw [Lib.cell_of_heap hbk]; rfl
  have hBw1 : B ≤ w1.heap.size := Nat.le_trans hBw hb1.size
  have HO : Hid (w1.ownsRow B 5 1 (.slice ao bs.length cap) bs.length bs) := hown
  have HK : Hid (w1.heap[b]? = some (.cells #[.pointer (some ⟨b, 0, none⟩), .slice ao bs.length cap] 51 (0, 0))) := hbk
  have HB1 : Hid (Below B w w1) := hb1
  have HK1 : Hid (Keep w w1) := hk1
  clear hk1
  clear hown hbk hb1 HC hne
  generalize hn : bs.length = n at *
  have HN : Hid (bs.length = n) := hn
  clear hn
  go_wp2_with (at_builtin; go_loud (refine Lib.wpList_append_own_string _ rfl _ _ 47 9 rfl B 5 i0 Tryd.underlying47 Tryd.underlying9 hi hz0 hz1 hz2 _ _ _ rfl HO.out s rfl ?c1 ?c2 ?c3 ?_))
  case c1 => unfold maxLen; omega
  case c2 => omega
  case c3 => omega
  intro v' w2 hown' hgrow _
  obtain ⟨ao2, cap2, rfl⟩ := owned_shape hown'
  have hbk2 : w2.heap[b]? = some (.cells #[.pointer (some ⟨b, 0, none⟩), .slice ao n cap] 51 (0, 0)) := by
    rw [hgrow.block b (lt_block HK.out) (not_own HO.out HK.out)]; exact HK.out
  have hc2 : w2.cell? ⟨b, 1, none⟩ = some (.slice ao n cap) := by rw [Lib.cell_of_heap hbk2]; rfl
  have hf2 : w2.frozen? ⟨b, 1, none⟩ = false := Lib.frozen_of_heap hbk2 1
  have HZ : Hid (Lib.IsBuilder 51 5 B b (bs ++ Lib.strCells s) (w2.setCell ⟨b, 1, none⟩ (.slice ao2 (n + s.size) cap2))) := by
    refine .inr (Lib.BuilderAt.put hB hbk2 ?_ (by decide))
    rw [List.length_append, HN.out, Lib.strCells_length]; exact hown'
  have HZ2 : Hid (Below B w (w2.setCell ⟨b, 1, none⟩ (.slice ao2 (n + s.size) cap2))) := (HB1.out.grown hgrow hBw1 (fun k hk => (HO.out.lt k hk).1)).setCell (p := ⟨b, 1, none⟩) hB _
  have HZ3 : Hid (Keep w (w2.setCell ⟨b, 1, none⟩ (.slice ao2 (n + s.size) cap2))) := (HK1.out.grown HO.out (by decide) hgrow).setCell hbk2 (by decide) _
  clear hown' hgrow hbk2 HO HK HB1 hc1 HK1
  go_wp2
  go_ret2
  exact ⟨rfl, HZ.out, HZ2.out, HZ3.out⟩


theorem Keep.of_below {w w' : World} (h : Below w.heap.size w w') : Keep w w' := fun g _ _ _ _ hg => by rw [h.block g (lt_block hg)]; exact hg
set_option maxHeartbeats 1000000 in
theorem len_calls (B b : Nat) (bs : List Value) (w : World) (h : Lib.IsBuilder 51 5 B b bs w) :
    Calls Tryd.prog 33 #[.pointer (some ⟨b, 0, none⟩)] w fun e w' => e = .returned (.int .i64 bs.length) ∧ w' = w := by
  obtain ⟨p, hB, v, hbk, hown, hne⟩ : ∃ p, Lib.BuilderAt 51 5 B b p bs w := by
    rcases h with h | h
    · exact ⟨_, h⟩
    · exact ⟨_, h⟩
  obtain ⟨ao, cap, rfl⟩ := owned_shape hown
  have hc1 : w.cell? ⟨b, 1, none⟩ = some (.slice ao bs.length cap) := by rw [Lib.cell_of_heap hbk]; rfl
  clear hbk hown hne hB
  generalize bs.length = n at *
  go_enter Tryd.func33, Tryd.ntmps33
  go_wp2
  go_ret
  exact ⟨rfl, rfl⟩
set_option maxHeartbeats 2000000 in
set_option maxRecDepth 100000 in
theorem string_calls (B b : Nat) (l : List UInt8) (w : World) (h : Lib.IsBuilder 51 5 B b (Lib.byteCells l) w) (h0 : l ≠ []) :
    Calls Tryd.prog 19 #[.pointer (some ⟨b, 0, none⟩)] w fun e w' => e = .returned (.string ⟨l.toArray⟩) ∧ Below B w w' := by
  obtain ⟨p, hB, v, hbk, hown, hne⟩ : ∃ p, Lib.BuilderAt 51 5 B b p (Lib.byteCells l) w := by
    rcases h with h | h
    · exact ⟨_, h⟩
    · exact ⟨_, h⟩
  have hl0 : l.length ≠ 0 := by simpa using h0
  rw [Lib.byteCells_length] at hown
  obtain ⟨g, cap, cur, rfl, hbg, hg, hnc, hcm, hcs, htake⟩ : ∃ g cap cur, v = .slice (some ⟨g, 0, none⟩) l.length cap ∧ B ≤ g ∧ w.heap[g]? = some (.cells cur 5 (0, 0)) ∧ l.length ≤ cap ∧ cap ≤ maxLen ∧ cur.size = cap * 1 ∧ cur.toList.take (l.length * 1) = Lib.byteCells l := by
    rcases hown.2 with ⟨_, hz⟩ | ⟨g, cap, cur, hv, r⟩
    · exact absurd hz hl0
    · exact ⟨g, cap, cur, hv, r⟩
  have c1 : w.drew.cell? ⟨b, 1, none⟩ = some (.slice (some ⟨g, 0, none⟩) l.length cap) := by
    have : w.drew.heap[b]? = some (.cells #[p, .slice (some ⟨g, 0, none⟩) l.length cap] 51 (0, 0)) := hbk
    rw [Lib.cell_of_heap this]; rfl
  have hSD : (Builtin.unsafeSliceData_ #[47] 81 #[.slice (some ⟨g, 0, none⟩) l.length cap]).run Tryd.prog w.drew = .ok (.pointer (some ⟨g, 0, none⟩)) w.drew :=
    Lib.run_unsafeSliceData_row _ _ _ _ _ _ (by omega)
  have hUS : (Builtin.unsafeString_ #[81, 3] 9 #[.pointer (some ⟨g, 0, none⟩), .int .i64 l.length]).run Tryd.prog w.drew = .ok (.string ⟨l.toArray⟩) (w.drew.freeze ⟨g, 0, none⟩ l.length) := by
    refine Lib.run_unsafeString_row w.drew 81 3 9 5 Tryd.underlying81 (by kernel_rfl) g cur.size (by have hg' : w.drew.heap[g]? = some (.cells cur 5 (0, 0)) := hg; simp [World.shape?, hg']) l h0 (by omega) (by unfold maxLen at hcm; omega) ?_
    intro j x hx
    have := hown.cells (g := g) rfl j (.int .u8 x.toNat) (by simp [Lib.byteCells, hx])
    exact this
  clear hbk hown hne hB
  have mixed : Tryd.prog.follows Departure.mixedOrders = true := by kernel_rfl
  go_enter Tryd.func19, Tryd.ntmps19
  go_wp2
  go_region_o
  all_goals (go_wp2; go_ret; exact ⟨rfl, Lib.below_freeze (Below.drew (Below.refl B w)) (p := ⟨g, 0, none⟩) hbg _⟩)
set_option maxHeartbeats 2000000 in
set_option maxRecDepth 100000 in
theorem string_none (b : Nat) (p : Value) (w : World) (hbk : w.heap[b]? = some (.cells #[p, .slice none 0 0] 51 (0, 0))) :
    Calls Tryd.prog 19 #[.pointer (some ⟨b, 0, none⟩)] w fun e w' => e = .returned (.string ⟨#[]⟩) ∧ Below w.heap.size w w' := by
  have hUS : ∀ (W : World) (q : Option Addr), (Builtin.unsafeString_ #[81, 3] 9 #[.pointer q, .int .i64 0]).run Tryd.prog W = .ok (.string .empty) W := fun W q => Lib.run_unsafeString_none W _ _ _ q
  have c1 : w.drew.cell? ⟨b, 1, none⟩ = some (.slice none 0 0) := by
    have : w.drew.heap[b]? = some (.cells #[p, .slice none 0 0] 51 (0, 0)) := hbk
    rw [Lib.cell_of_heap this]; rfl
  have hSD : (Builtin.unsafeSliceData_ #[47] 81 #[.slice none 0 0]).run Tryd.prog w.drew = .ok (.pointer none) w.drew := rfl
  have mixed : Tryd.prog.follows Departure.mixedOrders = true := by kernel_rfl
  go_enter Tryd.func19, Tryd.ntmps19
  go_wp2
  go_region_o
  all_goals (go_wp2; go_ret; exact ⟨rfl, (Below.refl _ _).drew⟩)
end Go.Proofs.YtpeldiibjhffiaaDoor
namespace Go.Proofs.YtpeldiibjhffiaaDoor
open Go.RowKit Go.Deep

/-- The bytes of a text as values. -/
abbrev bV (l : List UInt8) : List Value := Lib.byteCells l
theorem bV_str (s : ByteArray) : Lib.strCells s = bV s.data.toList := rfl
theorem bV_append (a b : List UInt8) : bV (a ++ b) = bV a ++ bV b := by simp [bV, Lib.byteCells]
theorem bV_length (a : List UInt8) : (bV a).length = a.length := Lib.byteCells_length a
theorem builder_below {B b : Nat} {l : List Value} {w w' : World} (h : Lib.IsBuilder 51 5 B b l w) (hb : Below w.heap.size w w') : Lib.IsBuilder 51 5 B b l w' := by
  rcases h with ⟨h1, v, h2, h3, h4⟩ | ⟨h1, v, h2, h3, h4⟩
  · exact .inl ⟨h1, v, by rw [hb.block b (lt_block h2)]; exact h2, owned_of_block h3 fun g _ _ hc => hb.block g (lt_block hc), h4⟩
  · exact .inr ⟨h1, v, by rw [hb.block b (lt_block h2)]; exact h2, owned_of_block h3 fun g _ _ hc => hb.block g (lt_block hc), h4⟩
/-- A sheet with so much laid down, in a world that has gone on from another. -/
structure Sh (w0 : World) (b : Nat) (T : List UInt8) (w : World) : Prop where
  is : Lib.IsBuilder 51 5 w0.heap.size b (bV T) w
  low : Below w0.heap.size w0 w
theorem Sh.next {w0 : World} {b : Nat} {T : List UInt8} {w w' : World} (h : Sh w0 b T w) (hb : Below w.heap.size w w') : Sh w0 b T w' := ⟨builder_below h.is hb, h.low.trans (hb.mono h.low.size)⟩
/-- The sheet's method as a value. -/
abbrev layV (b : Nat) : Value := .func (.func 18) #[.pointer (some ⟨b, 0, none⟩)] #[]
/-- What laying a text down leaves. -/
def LPost (w0 : World) (b : Nat) (T X : List UInt8) (w : World) (e : Ending) (w' : World) : Prop :=
  ∃ z : Bool, e = .returned (.bool z) ∧ Below w0.heap.size w0 w' ∧ Keep w w' ∧ (z = true → Sh w0 b (T ++ X) w' ∧ (T ++ X).length ≤ 4000) ∧ (z = false → 4000 < (T ++ X).length)
/-- Words in a row. -/
def WsAt (w : World) (g : Nat) (ws : List ByteArray) : Prop := ∃ (cs : Array Value) (f : Nat × Nat), w.heap[g]? = some (Obj.cells cs 9 f) ∧ ∀ (i : Nat) (s : ByteArray), ws[i]? = some s → cs[i]? = some (Value.string s)
theorem WsAt.keep {w w' : World} {g : Nat} {ws : List ByteArray} (h : WsAt w g ws) (hk : Keep w w') : WsAt w' g ws := by
  obtain ⟨cs, f, h1, h2⟩ := h
  exact ⟨cs, f, hk g cs 9 f (by decide) h1, h2⟩
theorem WsAt.cell {w : World} {g : Nat} {ws : List ByteArray} (h : WsAt w g ws) {i : Nat} {s : ByteArray} (hi : ws[i]? = some s) : w.cell? ⟨g, i, none⟩ = some (.string s) := by
  obtain ⟨cs, f, h1, h2⟩ := h
  rw [cell_of_row w g i cs 9 f h1]
  exact h2 i s hi
def catW (ws : List ByteArray) : List UInt8 := ws.flatMap fun s => s.data.toList
theorem catW_next {ws : List ByteArray} {i : Nat} {s : ByteArray} (h : ws[i]? = some s) : catW (ws.take (i + 1)) = catW (ws.take i) ++ s.data.toList := by
  obtain ⟨hlt, he⟩ := List.getElem?_eq_some_iff.1 h
  rw [List.take_succ_eq_append_getElem hlt, he]
  simp [catW]
set_option maxRecDepth 20000 in
set_option maxHeartbeats 2000000 in
theorem lay_calls (w0 : World) (b : Nat) (T : List UInt8) (g n c : Nat) (ws : List ByteArray) (w : World) (h : Sh w0 b T w) (hw : WsAt w g ws) (hn : ws.length = n) (h3 : n ≤ 3) (hT : T.length ≤ 4000) (hs : ∀ s ∈ ws, s.size ≤ 100) :
    Calls Tryd.prog 18 #[.pointer (some ⟨b, 0, none⟩), .slice (some ⟨g, 0, none⟩) n c] w (LPost w0 b T (catW ws) w) := by
  have HN : Hid (ws.length = n ∧ ∀ s ∈ ws, s.size ≤ 100) := ⟨hn, hs⟩
  have H0 : Hid (Sh w0 b T w ∧ WsAt w g ws) := ⟨h, hw⟩
  have HTl : Hid (T.length ≤ 4000) := hT
  clear h hw hn hs
  go_enter Tryd.func18, Tryd.ntmps18
  go_wp2_with fail
  go_loopg [9] n (fun k iv wr => ∃ i : Nat, iv = .int .i64 (i : Int) ∧ i + k = n ∧ Hid (Sh w0 b (T ++ catW (ws.take i)) wr ∧ WsAt wr g ws ∧ Keep w wr ∧ (T ++ catW (ws.take i)).length ≤ 4000 + i * 100))
  case atStart => exact ⟨0, rfl, by omega, by simpa [catW] using H0.out.1, H0.out.2, Keep.refl _, by simpa [catW] using HTl.out⟩
  case round =>
    clear H0 HTl hT
    obtain ⟨i, rfl, hik, HT⟩ := hrel
    by_cases hi : i < n
    · have hdi : decide ((i : Int) < (n : Int)) = true := by simp; omega
      obtain ⟨s, hsi⟩ : ∃ s, ws[i]? = some s := ⟨_, List.getElem?_eq_getElem (by rw [HN.out.1]; exact hi)⟩
      have hc := HT.out.2.1.cell hsi
      have hsz := HN.out.2 s (List.mem_of_getElem? hsi)
      have HNx : Hid (catW (ws.take (i + 1)) = catW (ws.take i) ++ s.data.toList) := catW_next hsi
      have HW : Hid (Calls Tryd.prog 32 #[.pointer (some ⟨b, 0, none⟩), .string s] wr fun e w' => e = .returned (.tuple #[.int .i64 s.size, .nilIface]) ∧ Lib.IsBuilder 51 5 w0.heap.size b (bV (T ++ catW (ws.take i)) ++ Lib.strCells s) w' ∧ Below w0.heap.size wr w' ∧ Keep wr w') :=
        writeString_calls w0.heap.size b _ s wr HT.out.1.is (by rw [bV_length]; have := HT.out.2.2.2; omega) HT.out.1.low.size
      clear hsi
      go_wp2_with fail
      refine HW.out.mono ?_
      rintro e w3 ⟨rfl, hb3, hbl, hk3⟩
      have HT3 : Hid (Sh w0 b (T ++ catW (ws.take (i + 1))) w3 ∧ WsAt w3 g ws ∧ Keep w w3 ∧ (T ++ catW (ws.take (i + 1))).length ≤ 4000 + (i + 1) * 100) := by
        obtain ⟨q1, q2, q3, q4⟩ := HT.out
        refine ⟨⟨?_, q1.low.trans hbl⟩, q2.keep hk3, q3.trans hk3, ?_⟩
        · rw [HNx.out, ← List.append_assoc, bV_append]
          exact hb3
        · rw [HNx.out, ← List.append_assoc, List.length_append, size_toList]
          omega
      clear hb3 hbl hk3 HT HW HNx hc
      go_wp2_with fail
      go_roundg (gk - 1)
      case measure => omega
      case rel => exact ⟨i + 1, by go_num, by omega, HT3.out⟩
    · have hdi : decide ((i : Int) < (n : Int)) = false := by simp; omega
      have HX : Hid (Sh w0 b (T ++ catW ws) wr ∧ Keep w wr) := by
        obtain ⟨q1, _, q3, _⟩ := HT.out
        rw [List.take_of_length_le (by rw [HN.out.1]; omega)] at q1
        exact ⟨q1, q3⟩
      have HLn : Hid (Calls Tryd.prog 33 #[.pointer (some ⟨b, 0, none⟩)] wr fun e w' => e = .returned (.int .i64 ((T ++ catW ws).length : Nat)) ∧ w' = wr) := by
        have := len_calls w0.heap.size b _ wr HX.out.1.is
        rw [bV_length] at this
        exact this
      clear HT HN
      by_cases h4 : (T ++ catW ws).length ≤ 4000
      · have hd4 : decide (((T ++ catW ws).length : Int) ≤ 4000) = true := by simp only [decide_eq_true_eq]; omega
        have HP : Hid (LPost w0 b T (catW ws) w (.returned (.bool true)) wr) := ⟨true, rfl, HX.out.1.low, HX.out.2, fun _ => ⟨HX.out.1, h4⟩, fun e => by cases e⟩
        clear HX h4
        generalize (T ++ catW ws).length = m at *
        go_wp2_with fail
        refine HLn.out.mono ?_
        rintro e w3 ⟨rfl, hw3⟩
        rw [hw3]
        clear hw3 HLn
        go_wp2
        go_ret
        exact HP.out
      · have hd4 : decide (((T ++ catW ws).length : Int) ≤ 4000) = false := by simp only [decide_eq_false_iff_not]; omega
        have HP : Hid (LPost w0 b T (catW ws) w (.returned (.bool false)) wr) := ⟨false, rfl, HX.out.1.low, HX.out.2, (fun e => by cases e), fun _ => by omega⟩
        clear HX h4
        generalize (T ++ catW ws).length = m at *
        go_wp2_with fail
        refine HLn.out.mono ?_
        rintro e w3 ⟨rfl, hw3⟩
        rw [hw3]
        clear hw3 HLn
        go_wp2
        go_ret
        exact HP.out
set_option maxHeartbeats 1000000 in
theorem firm_calls (k : Int) (w : World) : Calls Tryd.prog 69 #[.int .i64 k] w fun e w' => e = .returned (.int .i64 (firmB k)) ∧ w = w' := by
  have HE : Hid (firmB k = if k = 5 ∨ k = 6 then 0 else if k = 7 then 1 else 2) := rfl
  generalize firmB k = R at *
  by_cases h5 : k = 5
  · have q5 : (k == 5) = true := by rw [h5]; rfl
    have HR : Hid (R = 0) := by have := HE.out; rw [if_pos (.inl h5)] at this; exact this
    clear HE h5
    go_enter Tryd.func69, Tryd.ntmps69
    go_wp2
    go_ret
    exact ⟨ret_int HR.out.symm, rfl⟩
  have q5 : (k == 5) = false := by rw [beq_eq_false_iff_ne]; exact h5
  by_cases h6 : k = 6
  · have q6 : (k == 6) = true := by rw [h6]; rfl
    have HR : Hid (R = 0) := by have := HE.out; rw [if_pos (.inr h6)] at this; exact this
    clear HE h6 h5
    go_enter Tryd.func69, Tryd.ntmps69
    go_wp2
    go_ret
    exact ⟨ret_int HR.out.symm, rfl⟩
  have q6 : (k == 6) = false := by rw [beq_eq_false_iff_ne]; exact h6
  by_cases h7 : k = 7
  · have q7 : (k == 7) = true := by rw [h7]; rfl
    have HR : Hid (R = 1) := by have := HE.out; rw [if_neg (by omega), if_pos h7] at this; exact this
    clear HE h7 h6 h5
    go_enter Tryd.func69, Tryd.ntmps69
    go_wp2
    go_ret
    exact ⟨ret_int HR.out.symm, rfl⟩
  · have q7 : (k == 7) = false := by rw [beq_eq_false_iff_ne]; exact h7
    have HR : Hid (R = 2) := by have := HE.out; rw [if_neg (by omega), if_neg h7] at this; exact this
    clear HE h7 h6 h5
    go_enter Tryd.func69, Tryd.ntmps69
    go_wp2
    go_ret
    exact ⟨ret_int HR.out.symm, rfl⟩
theorem ret_str {a b : ByteArray} (h : a.data.toList = b.data.toList) : Ending.returned (.string a) = Ending.returned (.string b) := by
  obtain ⟨⟨a⟩⟩ := a
  obtain ⟨⟨b⟩⟩ := b
  simp at h
  subst h; rfl
set_option maxHeartbeats 1000000 in
theorem betw_calls (k : Int) (w : World) : Calls Tryd.prog 70 #[.int .i64 k] w fun e w' => e = .returned (.string (bs (sgnB k))) ∧ w = w' := by
  have HE : Hid (sgnB k = if k = 5 then [43] else if k = 6 then [45] else [42]) := rfl
  generalize sgnB k = R at *
  by_cases h5 : k = 5
  · have q5 : (k == 5) = true := by rw [h5]; rfl
    have HR : Hid (R = [43]) := by have := HE.out; rw [if_pos h5] at this; exact this
    clear HE h5
    go_enter Tryd.func70, Tryd.ntmps70
    go_wp2
    go_ret
    exact ⟨by rw [HR.out]; rfl, rfl⟩
  have q5 : (k == 5) = false := by rw [beq_eq_false_iff_ne]; exact h5
  by_cases h6 : k = 6
  · have q6 : (k == 6) = true := by rw [h6]; rfl
    have HR : Hid (R = [45]) := by have := HE.out; rw [if_neg h5, if_pos h6] at this; exact this
    clear HE h6 h5
    go_enter Tryd.func70, Tryd.ntmps70
    go_wp2
    go_ret
    exact ⟨by rw [HR.out]; rfl, rfl⟩
  · have q6 : (k == 6) = false := by rw [beq_eq_false_iff_ne]; exact h6
    have HR : Hid (R = [42]) := by have := HE.out; rw [if_neg h5, if_neg h6] at this; exact this
    clear HE h6 h5
    go_enter Tryd.func70, Tryd.ntmps70
    go_wp2
    go_ret
    exact ⟨by rw [HR.out]; rfl, rfl⟩
set_option maxHeartbeats 1000000 in
theorem sign_calls' (k : Int) (w : World) : Calls Tryd.prog 31 #[.int .i64 k] w fun e w' => e = .returned (.string (bs (signI k))) ∧ w = w' := by
  have HE : Hid (signI k = if k = 8 then [32, 46, 46, 32] else [44, 32]) := rfl
  generalize signI k = R at *
  by_cases h5 : k = 8
  · have q5 : (k == 8) = true := by rw [h5]; rfl
    have HR : Hid (R = [32, 46, 46, 32]) := by have := HE.out; rw [if_pos h5] at this; exact this
    clear HE h5
    go_enter Tryd.func31, Tryd.ntmps31
    go_wp2
    go_ret
    exact ⟨by rw [HR.out]; rfl, rfl⟩
  · have q5 : (k == 8) = false := by rw [beq_eq_false_iff_ne]; exact h5
    have HR : Hid (R = [44, 32]) := by have := HE.out; rw [if_neg h5] at this; exact this
    clear HE h5
    go_enter Tryd.func31, Tryd.ntmps31
    go_wp2
    go_ret
    exact ⟨by rw [HR.out]; rfl, rfl⟩
set_option maxHeartbeats 2000000 in
theorem word_calls' (k : Int) (w : World) : Calls Tryd.prog 48 #[.int .i64 k] w fun e w' => e = .returned (.string (bs (wordI k))) ∧ w = w' := by
  by_cases h2 : k = 2
  · subst h2
    go_enter Tryd.func48, Tryd.ntmps48
    go_wp2
    go_ret
    exact ⟨rfl, rfl⟩
  have q2 : (k == 2) = false := by rw [beq_eq_false_iff_ne]; exact h2
  by_cases h3 : k = 3
  · subst h3
    go_enter Tryd.func48, Tryd.ntmps48
    go_wp2
    go_ret
    exact ⟨rfl, rfl⟩
  have q3 : (k == 3) = false := by rw [beq_eq_false_iff_ne]; exact h3
  by_cases h4 : k = 4
  · subst h4
    go_enter Tryd.func48, Tryd.ntmps48
    go_wp2
    go_ret
    exact ⟨rfl, rfl⟩
  have q4 : (k == 4) = false := by rw [beq_eq_false_iff_ne]; exact h4
  by_cases h5 : k = 5
  · subst h5
    go_enter Tryd.func48, Tryd.ntmps48
    go_wp2
    go_ret
    exact ⟨rfl, rfl⟩
  have q5 : (k == 5) = false := by rw [beq_eq_false_iff_ne]; exact h5
  by_cases h6 : k = 6
  · subst h6
    go_enter Tryd.func48, Tryd.ntmps48
    go_wp2
    go_ret
    exact ⟨rfl, rfl⟩
  have q6 : (k == 6) = false := by rw [beq_eq_false_iff_ne]; exact h6
  by_cases h8 : k = 8
  · subst h8
    go_enter Tryd.func48, Tryd.ntmps48
    go_wp2
    go_ret
    exact ⟨rfl, rfl⟩
  have q8 : (k == 8) = false := by rw [beq_eq_false_iff_ne]; exact h8
  by_cases h9 : k = 9
  · subst h9
    go_enter Tryd.func48, Tryd.ntmps48
    go_wp2
    go_ret
    exact ⟨rfl, rfl⟩
  have q9 : (k == 9) = false := by rw [beq_eq_false_iff_ne]; exact h9
  have HR : Hid (wordI k = [108, 101, 97, 115, 116]) := by
    show _ = _
    unfold wordI
    rw [if_neg h2, if_neg h3, if_neg h4, if_neg h5, if_neg h6, if_neg h8, if_neg h9]
  generalize wordI k = R at *
  clear h2 h3 h4 h5 h6 h8 h9
  go_enter Tryd.func48, Tryd.ntmps48
  go_wp2
  go_ret
  exact ⟨by rw [HR.out]; rfl, rfl⟩
end Go.Proofs.YtpeldiibjhffiaaDoor
