/-
  Models in memory; the walks of areFrom, widest, mostOf, within.
-/
import Derived.Test.YtegndeefddlccaaBdP
import Derived.Test.YtegndeefddlccaaProg
import Derived.WalkKit
import Derived.WalkSmall
import Derived.BigQuiet
import Derived.Deep.QuietTactic
import Derived.Laws.Cover1
namespace Go.Proofs.Ytegndeefddlccaa
open Go.RowKit

theorem ret_int {k : IntKind} {a b : Int} (h : a = b) : Ending.returned (.int k a) = .returned (.int k b) := by rw [h]
theorem int_eq {k : IntKind} {a b : Int} (h : a = b) : Value.int k a = .int k b := by rw [h]
theorem ret_bool {a b : Bool} (h : a = b) : Ending.returned (.bool a) = .returned (.bool b) := by rw [h]

structure IntsAt (w : World) (ao : Option Addr) (len : Nat) (zs : List Int) : Prop where
  length : zs.length = len
  short : len ≤ maxLen
  cells : 0 < len → ∃ b off, ao = some ⟨b, off, none⟩ ∧ ∀ i, i < len → w.cell? ⟨b, off + i, none⟩ = some (.int .i64 (zs.getD i 0))
theorem IntsAt.below {w w' : World} {ao : Option Addr} {len : Nat} {zs : List Int} (h : IntsAt w ao len zs) (hb : Below w.heap.size w w') : IntsAt w' ao len zs := by
  refine ⟨h.length, h.short, fun h0 => ?_⟩
  obtain ⟨b, off, e, hc⟩ := h.cells h0
  refine ⟨b, off, e, fun i hi => ?_⟩
  have hci := hc i hi
  rw [hb.cell (p := ⟨b, off + i, none⟩) (World.block_lt_of_cell? w _ hci)]
  exact hci
theorem IntsAt.nil (w : World) (ao : Option Addr) : IntsAt w ao 0 [] := ⟨rfl, Nat.zero_le _, fun h => absurd h (by decide)⟩

structure GpsAt (w : World) (ao : Option Addr) (len : Nat) (l : List (Int × Int)) : Prop where
  length : l.length = len
  short : len ≤ maxLen
  cells : 0 < len → ∃ b off, ao = some ⟨b, off, none⟩ ∧ ∀ (i : Nat) (g : Int × Int), l[i]? = some g → w.cell? ⟨b, off + i * 2, none⟩ = some (.int .i64 g.1) ∧ w.cell? ⟨b, off + i * 2 + 1, none⟩ = some (.int .i64 g.2)
theorem GpsAt.below {w w' : World} {ao : Option Addr} {len : Nat} {l : List (Int × Int)} (h : GpsAt w ao len l) (hb : Below w.heap.size w w') : GpsAt w' ao len l := by
  refine ⟨h.length, h.short, fun h0 => ?_⟩
  obtain ⟨b, off, e, hc⟩ := h.cells h0
  refine ⟨b, off, e, fun i q hi => ?_⟩
  obtain ⟨h1, h2⟩ := hc i q hi
  refine ⟨?_, ?_⟩
  · rw [hb.cell (World.block_lt_of_cell? w _ h1)]; exact h1
  · rw [hb.cell (World.block_lt_of_cell? w _ h2)]; exact h2
theorem GpsAt.nil (w : World) (ao : Option Addr) : GpsAt w ao 0 [] := ⟨rfl, Nat.zero_le _, fun h => absurd h (by decide)⟩

/-- The cells of a model, its lists at some places. -/
def mdCells (m : Md) (sa : Option Addr) (sn sc : Nat) (ga : Option Addr) (gn gc : Nat) : Array Value :=
  #[.int .i64 m.letters, .slice sa sn sc, .slice ga gn gc, .int .i64 m.mode, .bool m.banded, .int .i64 m.lo, .int .i64 m.hi, .int .i64 m.front, .int .i64 m.back, .int .i64 m.least]
structure MdAt (w : World) (m : Md) (sa : Option Addr) (sn : Nat) (ga : Option Addr) (gn : Nat) : Prop where
  subst : IntsAt w sa sn m.subst
  gaps : GpsAt w ga gn m.gaps
theorem MdAt.below {w w' : World} {m : Md} {sa : Option Addr} {sn : Nat} {ga : Option Addr} {gn : Nat} (h : MdAt w m sa sn ga gn) (hb : Below w.heap.size w w') : MdAt w' m sa sn ga gn :=
  ⟨h.subst.below hb, h.gaps.below hb⟩

theorem cell_block {w : World} {g : Nat} {cs : Array Value} {t : TypeId} {f : Nat × Nat} (h : w.heap[g]? = some (.cells cs t f)) (i : Nat) (v : Value) (hv : cs[i]? = some v) : w.cell? ⟨g, i, none⟩ = some v := by
  simp [World.cell?, h, hv]
theorem new_block (w : World) (o : Obj) : (w.alloc o).heap[w.heap.size]? = some o := by
  exact heap_alloc_new w o
theorem ints_new {w : World} {g : Nat} {zs : List Int} {cs : Array Value} {t : TypeId} {f : Nat × Nat} (h : w.heap[g]? = some (.cells cs t f)) (hc : cs = (zs.map (Value.int .i64)).toArray) (hs : zs.length ≤ maxLen) : IntsAt w (some ⟨g, 0, none⟩) zs.length zs := by
  refine ⟨rfl, hs, fun _ => ⟨g, 0, rfl, fun i hi => ?_⟩⟩
  rw [Nat.zero_add]
  refine cell_block h i _ ?_
  subst hc
  simp [List.getD, List.getElem?_eq_getElem hi]

set_option maxHeartbeats 1000000 in
theorem areFrom_calls (least : Int) (ao : Option Addr) (len cap : Nat) (zs : List Int) (w : World) (hz : IntsAt w ao len zs) :
    Calls Try.prog 72 #[.int .i64 least, .slice ao len cap] w fun e w' => e = .returned (.bool (fromB least zs)) ∧ w = w' := by
  have hm := hz.short
  unfold maxLen at hm
  have HZ : Hid (IntsAt w ao len zs) := hz
  clear hz
  go_enter Try.func72, Try.ntmps72
  go_wp2
  go_loop [6, 9] (fun _ i => ∃ k : Nat, k ≤ len ∧ i = .int .i64 k ∧ (∀ j, j < k → least ≤ zs.getD j 0 ∧ zs.getD j 0 ≤ 72057594037927936)) (fun _ i => len - (intOf i).toNat)
  case atStart => exact ⟨0, Nat.zero_le _, rfl, fun j hj => by omega⟩
  case round =>
    obtain ⟨k, hk, rfl, hall⟩ := hrel
    have HA : Hid (∀ j, j < k → least ≤ zs.getD j 0 ∧ zs.getD j 0 ≤ 72057594037927936) := hall
    clear hall
    by_cases hlt : k < len
    · obtain ⟨b, off, rfl, hcs⟩ := HZ.out.cells (by omega)
      have hc1 := hcs k hlt
      clear hcs
      generalize hz : zs.getD k 0 = z at hc1
      have HK : Hid (zs.getD k 0 = z) := hz
      clear hz
      by_cases h1 : z < least
      · have HE : Hid (fromB least zs = false) := fromB_bad k (by rw [HZ.out.length]; exact hlt) (by rw [HK.out]; exact Or.inl h1)
        go_wp2
        go_ret
        rw [HE.out]
        exact ⟨rfl, rfl⟩
      · by_cases h2 : 72057594037927936 < z
        · have HE : Hid (fromB least zs = false) := fromB_bad k (by rw [HZ.out.length]; exact hlt) (by rw [HK.out]; exact Or.inr h2)
          go_wp2
          go_ret
          rw [HE.out]
          exact ⟨rfl, rfl⟩
        · go_wp2
          go_round
          case rel =>
            refine ⟨k + 1, by omega, by go_num, ?_⟩
            intro j hj
            by_cases e : j = k
            · subst e; rw [HK.out]; omega
            · exact HA.out j (by omega)
          case measure => simp [intOf]; omega
    · have HE : Hid (fromB least zs = true) := fromB_all (fun j hj => HA.out j (by rw [HZ.out.length] at hj; omega))
      go_wp2
      go_ret
      rw [HE.out]
      exact ⟨rfl, rfl⟩

set_option maxHeartbeats 1000000 in
theorem within_calls (least : Int) (ao : Option Addr) (len cap : Nat) (zs : List Int) (w : World) (hz : IntsAt w ao len zs) :
    Calls Try.prog 42 #[.slice ao len cap, .int .i64 least] w fun e w' => e = .returned (.bool (fromB least zs)) ∧ w = w' := by
  have hm := hz.short
  unfold maxLen at hm
  have HZ : Hid (IntsAt w ao len zs) := hz
  clear hz
  go_enter Try.func42, Try.ntmps42
  go_wp2
  go_loop [5] (fun i => ∃ k : Nat, k ≤ len ∧ i = .int .i64 k ∧ (∀ j, j < k → least ≤ zs.getD j 0 ∧ zs.getD j 0 ≤ 72057594037927936)) (fun i => len - (intOf i).toNat)
  case atStart => exact ⟨0, Nat.zero_le _, rfl, fun j hj => by omega⟩
  case round =>
    obtain ⟨k, hk, rfl, hall⟩ := hrel
    have HA : Hid (∀ j, j < k → least ≤ zs.getD j 0 ∧ zs.getD j 0 ≤ 72057594037927936) := hall
    clear hall
    by_cases hlt : k < len
    · obtain ⟨b, off, rfl, hcs⟩ := HZ.out.cells (by omega)
      have hc1 := hcs k hlt
      clear hcs
      generalize hz : zs.getD k 0 = z at hc1
      have HK : Hid (zs.getD k 0 = z) := hz
      clear hz
      by_cases h1 : z < least
      · have HE : Hid (fromB least zs = false) := fromB_bad k (by rw [HZ.out.length]; exact hlt) (by rw [HK.out]; exact Or.inl h1)
        go_wp2
        go_ret
        rw [HE.out]
        exact ⟨rfl, rfl⟩
      · by_cases h2 : 72057594037927936 < z
        · have HE : Hid (fromB least zs = false) := fromB_bad k (by rw [HZ.out.length]; exact hlt) (by rw [HK.out]; exact Or.inr h2)
          go_wp2
          go_ret
          rw [HE.out]
          exact ⟨rfl, rfl⟩
        · go_wp2
          go_round
          case rel =>
            refine ⟨k + 1, by omega, by go_num, ?_⟩
            intro j hj
            by_cases e : j = k
            · subst e; rw [HK.out]; omega
            · exact HA.out j (by omega)
          case measure => simp [intOf]; omega
    · have HE : Hid (fromB least zs = true) := fromB_all (fun j hj => HA.out j (by rw [HZ.out.length] at hj; omega))
      go_wp2
      go_ret
      rw [HE.out]
      exact ⟨rfl, rfl⟩

theorem getD_mem {zs : List Int} {k : Nat} (h : k < zs.length) : zs.getD k 0 ∈ zs := by
  simp only [List.getD, List.getElem?_eq_getElem h, Option.getD_some]
  exact List.getElem_mem h
theorem getD_some {zs : List Int} {k : Nat} (h : k < zs.length) : zs[k]? = some (zs.getD k 0) := by
  simp [List.getD, List.getElem?_eq_getElem h]

theorem max3 (ts : Array TypeId) (t : TypeId) (v z : Int) (W : World) : (Builtin.max_ ts t #[.int .i64 v, .int .i64 z, .int .i64 (-z)]).run Try.prog W = .ok (.int .i64 (wmax v z)) W := by
  rw [Go.run_max_int3]
  congr 2
  unfold wmax
  split <;> split <;> omega
set_option maxHeartbeats 1000000 in
theorem widest_calls (ao : Option Addr) (len cap : Nat) (zs : List Int) (w : World) (hz : IntsAt w ao len zs) (hn : ∀ n ∈ zs, -144115188075855872 ≤ n ∧ n ≤ 144115188075855872) :
    Calls Try.prog 69 #[.slice ao len cap] w fun e w' => e = .returned (.int .i64 (widN zs)) ∧ w = w' := by
  have hm := hz.short
  unfold maxLen at hm
  have HZ : Hid (IntsAt w ao len zs) := hz
  have HN : Hid (∀ n ∈ zs, -144115188075855872 ≤ n ∧ n ≤ 144115188075855872) := hn
  clear hz hn
  go_enter Try.func69, Try.ntmps69
  go_wp2
  go_loop [3, 5, 8] (fun v _ i => ∃ k : Nat, k ≤ len ∧ i = .int .i64 k ∧ v = .int .i64 (widN (zs.take k))) (fun _ _ i => len - (intOf i).toNat)
  case atStart => exact ⟨0, Nat.zero_le _, rfl, rfl⟩
  case round =>
    obtain ⟨k, hk, rfl, rfl⟩ := hrel
    by_cases hlt : k < len
    · obtain ⟨b, off, rfl, hcs⟩ := HZ.out.cells (by omega)
      have hc1 := hcs k hlt
      clear hcs
      have hzl := HZ.out.length
      have hbd := HN.out _ (getD_mem (zs := zs) (k := k) (by omega))
      have HT : Hid (widN (zs.take (k + 1)) = wmax (widN (zs.take k)) (zs.getD k 0)) := by
        show widN (zs.take (k + 1)) = _; rw [take_snocD zs k _ (getD_some (by omega)), widN_snoc]
      have hw := widN_bd (zs.take k) 144115188075855872 (by omega) (fun n hn => HN.out n (List.mem_of_mem_take hn))
      clear hzl
      generalize zs.getD k 0 = z at *
      generalize widN (zs.take k) = v at *
      have hmx := fun ts t (W : World) => max3 ts t v z W
      go_wp2
      go_round
      case rel => exact ⟨k + 1, by omega, by go_num, by rw [HT.out]⟩
      case measure => simp [intOf]; omega
    · have HT : Hid (widN (zs.take k) = widN zs) := by show widN (zs.take k) = _; rw [List.take_of_length_le (by rw [HZ.out.length]; omega)]
      go_wp2
      go_ret
      exact ⟨ret_int HT.out, rfl⟩

set_option maxHeartbeats 400000 in
theorem mostOf_calls (v : Int) (w : World) (h1 : 1 ≤ v) (h2 : v ≤ 144115188075855872) :
    Calls Try.prog 63 #[.int .i64 v] w fun e w' => e = .returned (.int .i64 (most v)) ∧ w = w' := by
  have h3 : ¬ v = 0 := by omega
  have h4 : 4 ≤ 576460752303423488 / v := (Int.le_ediv_iff_mul_le (by omega)).2 (by omega)
  have h5 : 576460752303423488 / v ≤ 576460752303423488 := Int.ediv_le_self _ (by omega)
  go_enter Try.func63, Try.ntmps63
  go_wp2
  all_goals
    go_ret
    exact ⟨ret_int (by unfold most; omega), rfl⟩
end Go.Proofs.Ytegndeefddlccaa
