/-
  Rows in memory that are cut, or of which a part is laid anew. And what follows.
-/
import Derived.Lib.SliceRun
import Derived.Deep.RegionLaw
import Derived.Test.YtolehoibpnenlabMm
import Derived.Test.YtolehoibpnenlabPsB
import Derived.Test.YtolehoibpnenlabMl
namespace Go.Proofs.Ytolehoibpnenlab
open Go.RowKit Go.Deep Go.Maps

theorem heap_setCells (g : Nat) (t : TypeId) : ∀ (vs : List Value) (o : Nat) (w : World) (cur : Array Value), w.heap[g]? = some (.cells cur t (0, 0)) →
    ∃ cur' : Array Value, (w.setCells g o vs).heap[g]? = some (.cells cur' t (0, 0)) ∧ cur'.size = cur.size ∧ (∀ j, j < o ∨ o + vs.length ≤ j → cur'[j]? = cur[j]?) ∧ (∀ j, j < vs.length → o + j < cur.size → cur'[o + j]? = vs[j]?)
  | [], _, _, cur, h => ⟨cur, h, rfl, fun _ _ => rfl, fun j hj => by simp at hj⟩
  | v :: r, o, w, cur, h => by
    obtain ⟨c', h1, h2, h3, h4⟩ := heap_setCells g t r (o + 1) (w.setCell ⟨g, o, none⟩ v) _ (heap_set v h)
    refine ⟨c', h1, by rw [h2]; simp, fun j hj => ?_, fun j hj hs => ?_⟩
    · simp at hj
      rw [h3 j (by omega), Array.getElem?_setIfInBounds_ne (by omega)]
    · cases j with
      | zero =>
        rw [h3 (o + 0) (by omega)]
        simp at hs
        simp [hs]
      | succ j =>
        rw [show o + (j + 1) = o + 1 + j by omega, h4 j (by simpa using hj) (by simp; omega)]
        rfl
theorem grown_refl (w : World) (r : Option Nat) : w.grownBy w r := ⟨rfl, rfl, rfl, Nat.le_refl _, fun _ _ _ => rfl⟩
theorem grown_setCells (g : Nat) : ∀ (vs : List Value) (o : Nat) (w : World), w.grownBy (w.setCells g o vs) (some g)
  | [], _, w => grown_refl w _
  | v :: r, o, w => grown_trans (grown_set w g o v) (grown_setCells g r (o + 1) _)
/-- A row is cut, and what lies behind it is written. -/
theorem own_cut {w : World} {base : Nat} {e : TypeId} {size g n cap : Nat} {xs : List Value} (h : w.ownsRow base e size (.slice (some ⟨g, 0, none⟩) n cap) n xs) (m o : Nat) (vs : List Value) (hm : m ≤ n) (ho : m * size ≤ o) :
    (w.setCells g o vs).ownsRow base e size (.slice (some ⟨g, 0, none⟩) m cap) m (xs.take (m * size)) := by
  have hms : m * size ≤ n * size := Nat.mul_le_mul_right _ hm
  refine ⟨by rw [List.length_take, h.1]; omega, ?_⟩
  rcases h.2 with ⟨hv, _⟩ | ⟨g', cap', cur, hv, hb, hg, h1, h2, h3, h4⟩
  · cases hv
  · cases hv
    obtain ⟨c', k1, k2, k3, _⟩ := heap_setCells g e vs o w cur hg
    refine .inr ⟨g, cap, c', rfl, hb, k1, by omega, h2, by rw [k2, h3], ?_⟩
    rw [← h4, List.take_take, Nat.min_eq_left hms]
    apply List.ext_getElem?
    intro j
    by_cases hj : j < m * size
    · rw [List.getElem?_take_of_lt hj, List.getElem?_take_of_lt hj, Array.getElem?_toList, Array.getElem?_toList, k3 j (by omega)]
    · rw [List.getElem?_take_eq_none (by omega), List.getElem?_take_eq_none (by omega)]
/-- The end of a row is laid anew. -/
theorem own_lay {w : World} {base : Nat} {e : TypeId} {size g n cap : Nat} {xs : List Value} (h : w.ownsRow base e size (.slice (some ⟨g, 0, none⟩) n cap) n xs) (i m : Nat) (vs : List Value) (hv : i * size + vs.length = m * size) (hi : i ≤ n) (hm : m ≤ cap) :
    (w.setCells g (i * size) vs).ownsRow base e size (.slice (some ⟨g, 0, none⟩) m cap) m (xs.take (i * size) ++ vs) := by
  have his : i * size ≤ n * size := Nat.mul_le_mul_right _ hi
  have hmc : m * size ≤ cap * size := Nat.mul_le_mul_right _ hm
  have hxl := h.1
  refine ⟨by rw [List.length_append, List.length_take, hxl]; omega, ?_⟩
  rcases h.2 with ⟨hv', _⟩ | ⟨g', cap', cur, hv', hb, hg, h1, h2, h3, h4⟩
  · cases hv'
  · cases hv'
    obtain ⟨c', k1, k2, k3, k4⟩ := heap_setCells g e vs (i * size) w cur hg
    refine .inr ⟨g, cap, c', rfl, hb, k1, hm, h2, by rw [k2, h3], ?_⟩
    apply List.ext_getElem?
    intro j
    have hl : (xs.take (i * size)).length = i * size := by rw [List.length_take, hxl]; omega
    by_cases hj : j < i * size
    · rw [List.getElem?_take_of_lt (by omega), Array.getElem?_toList, k3 j (by omega), List.getElem?_append_left (by omega), List.getElem?_take_of_lt hj, ← h4, List.getElem?_take_of_lt (by omega), Array.getElem?_toList]
    · rw [List.getElem?_append_right (by omega), hl]
      by_cases hj2 : j < m * size
      · rw [List.getElem?_take_of_lt hj2, Array.getElem?_toList]
        have := k4 (j - i * size) (by omega) (by omega)
        rwa [show i * size + (j - i * size) = j by omega] at this
      · rw [List.getElem?_take_eq_none (by omega), List.getElem?_eq_none (by omega)]
theorem zero_one {z : Array Value} (h0 : 0 < z.size) (h : ∀ u ∈ z, u.oneCell' = true) (n : Nat) : ∀ u ∈ (Builtin.zeroCells z n).toList, u.oneCell' = true := fun u hu => by
  simp only [Builtin.zeroCells, Array.toList_map, List.mem_map] at hu
  obtain ⟨i, _, rfl⟩ := hu
  have hlt := Nat.mod_lt i h0
  rw [getElem!_pos z _ hlt]
  exact h _ (Array.getElem_mem _)
/-- 'clear(s)' on a slice of elements of several cells. -/
theorem run_clear_cells {P : Program} (w : World) (t e ty : TypeId) (z : Value) (ht : P.underlying t = some (.slice e)) (hv : ∀ w, (zeroValue e).run P w = .ok z w) (size : Nat) (hz : z.cells.size = size) (h0 : 0 < size) (h1 : ∀ u ∈ z.cells, u.oneCell' = true) (b o n c : Nat) (hn : 0 < n)
    (hc : ∀ j, j < n * size → (w.cell? ⟨b, o + j, none⟩).isSome = true) (hf : ∀ j, j < n * size → w.frozen? ⟨b, o + j, none⟩ = false) :
    (Builtin.clear_ #[t] ty #[.slice (some ⟨b, o, none⟩) n c]).run P w = .ok (.tuple #[]) (w.setCells b o (Builtin.zeroCells z.cells n).toList) := by
  have hl : (Builtin.zeroCells z.cells n).toList.length = n * size := by rw [Array.length_toList, size_zeroCells, hz]
  have hst := run_storeCells_cells (P := P) b o (Builtin.zeroCells z.cells n).toList 0 w (by rw [hl]; simpa using hc) (by rw [hl]; simpa using hf) (zero_one (by omega) h1 n)
  simp only [Nat.add_zero] at hst
  obtain ⟨m, rfl⟩ : ∃ m, n = m + 1 := ⟨n - 1, by omega⟩
  simp [Builtin.clear_, run_underlying ht, hv, hst]
/-- Cells of a row's block, as far as its capacity goes. -/
theorem own_there {w : World} {base : Nat} {e : TypeId} {size g n cap : Nat} {xs : List Value} (h : w.ownsRow base e size (.slice (some ⟨g, 0, none⟩) n cap) n xs) : n ≤ cap ∧ cap ≤ maxLen ∧ ∀ j, j < cap * size → (w.cell? ⟨g, j, none⟩).isSome = true ∧ w.frozen? ⟨g, j, none⟩ = false := by
  rcases h.2 with ⟨hv, _⟩ | ⟨g', cap', cur, hv, hb, hg, h1, h2, h3, h4⟩
  · cases hv
  · cases hv
    refine ⟨h1, h2, fun j hj => ⟨?_, frozen_of_row w g j _ _ hg⟩⟩
    rw [blk hg (Array.getElem?_eq_getElem (by omega))]
    rfl
end Go.Proofs.Ytolehoibpnenlab
namespace Go.Proofs.Ytolehoibpnenlab
open Go.RowKit Go.Deep Go.Maps

/-- The first one of which it is told. -/
def IdxIs (p : Int × Int → Bool) (l : List (Int × Int)) (r : Int) : Prop :=
  (r = -1 ∧ ∀ e ∈ l, p e = false) ∨ ∃ k : Nat, r = k ∧ k < l.length ∧ (∃ e, l[k]? = some e ∧ p e = true) ∧ ∀ (j : Nat) (e : Int × Int), j < k → l[j]? = some e → p e = false
theorem IdxIs.any {p : Int × Int → Bool} {l : List (Int × Int)} {r : Int} (h : IdxIs p l r) : decide (0 ≤ r) = l.any p := by
  rcases h with ⟨rfl, h⟩ | ⟨k, rfl, _, ⟨e, he, hp⟩, _⟩
  · rw [List.any_eq_false.2 (fun e he => by rw [h e he]; decide)]
    rfl
  · rw [List.any_eq_true.2 ⟨e, List.mem_of_getElem? he, hp⟩]
    simp
set_option maxRecDepth 20000 in
set_option maxHeartbeats 1000000 in
theorem idxF_calls (p : Int × Int → Bool) (fid cb : Nat) (hent : ∀ args W, (callFunc fid args).run Try.prog W = .ok (.enter fid args) W) (l : List (Int × Int)) (ao : Option Addr) (n cc : Nat) (w : World) (h : PcsAt w ao n l)
    (hC : ∀ e ∈ l, ∀ W, Below w.heap.size w W → Calls Try.prog fid #[.agg #[.int .i64 e.1, .int .i64 e.2], .pointer (some ⟨cb, 0, none⟩)] W fun r W' => r = .returned (.bool (p e)) ∧ Below W.heap.size W W') :
    Calls Try.prog 77 #[.slice ao n cc, .func (.func fid) #[] #[.pointer (some ⟨cb, 0, none⟩)]] w fun e w' => ∃ r : Int, e = .returned (.int .i64 r) ∧ IdxIs p l r ∧ Below w.heap.size w w' := by
  have hn := h.short
  unfold maxLen at hn
  have HD : Hid (PcsAt w ao n l) := h
  have HC : Hid (∀ e ∈ l, ∀ W, Below w.heap.size w W → Calls Try.prog fid #[.agg #[.int .i64 e.1, .int .i64 e.2], .pointer (some ⟨cb, 0, none⟩)] W fun r W' => r = .returned (.bool (p e)) ∧ Below W.heap.size W W') := hC
  clear h hC
  go_enter Try.func77, Try.ntmps77
  go_wp2
  go_loopw [5, 8] (fun _ iv wr => ∃ k : Nat, k ≤ n ∧ iv = .int .i64 k ∧ Hid ((∀ (j : Nat) (e : Int × Int), j < k → l[j]? = some e → p e = false) ∧ Below w.heap.size w wr)) (fun _ i _ => n - (intOf i).toNat)
  case atStart => exact ⟨0, Nat.zero_le _, rfl, fun j e hj => by omega, Below.refl _ _⟩
  case round =>
    obtain ⟨k, hk, rfl, HT⟩ := hrel
    by_cases hlt : k < n
    · obtain ⟨d, hdi⟩ : ∃ d, l[k]? = some d := ⟨l[k]'(by rw [HD.out.length]; exact hlt), List.getElem?_eq_getElem _⟩
      obtain ⟨g, off, rfl, hcs⟩ := (HD.out.below HT.out.2).cells (by omega)
      obtain ⟨b0, b1⟩ := hcs k d hdi
      have HK : Hid (l[k]? = some d) := hdi
      have HK1 : Hid (Calls Try.prog fid #[.agg #[.int .i64 d.1, .int .i64 d.2], .pointer (some ⟨cb, 0, none⟩)] wr fun r W' => r = .returned (.bool (p d)) ∧ Below wr.heap.size wr W') := HC.out d (List.mem_of_getElem? hdi) wr HT.out.2
      clear hcs hdi
      go_wp2_with fail
      refine HK1.out.mono ?_
      rintro e w2 ⟨rfl, hb2⟩
      have HB2 : Hid (Below w.heap.size w w2) := HT.out.2.trans (hb2.mono HT.out.2.size)
      clear hb2 b0 b1 HK1
      cases ho : p d with
      | true =>
        have HE : Hid (IdxIs p l (k : Int)) := .inr ⟨k, rfl, by rw [HD.out.length]; exact hlt, ⟨d, HK.out, ho⟩, HT.out.1⟩
        clear ho
        go_wp2
        go_ret
        exact ⟨_, rfl, HE.out, HB2.out⟩
      | false =>
        have HE : Hid (∀ (j : Nat) (e : Int × Int), j < k + 1 → l[j]? = some e → p e = false) := fun j e hj he => by
          by_cases hjk : j = k
          · subst hjk; rw [HK.out] at he; cases he; exact ho
          · exact HT.out.1 j e (by omega) he
        clear ho
        go_wp2
        go_roundw
        case rel => exact ⟨k + 1, by omega, by go_num, HE.out, HB2.out⟩
        case measure => simp [intOf]; omega
    · have HE : Hid (IdxIs p l (-1) ∧ Below w.heap.size w wr) := by
        refine ⟨.inl ⟨rfl, fun e he => ?_⟩, HT.out.2⟩
        obtain ⟨j, hj, rfl⟩ := List.mem_iff_getElem.1 he
        exact HT.out.1 j _ (by rw [HD.out.length] at hj; omega) (List.getElem?_eq_getElem hj)
      clear HT
      go_wp2
      go_ret
      exact ⟨-1, rfl, HE.out⟩
set_option maxRecDepth 20000 in
set_option maxHeartbeats 1000000 in
theorem contF_calls (p : Int × Int → Bool) (fid cb : Nat) (hent : ∀ args W, (callFunc fid args).run Try.prog W = .ok (.enter fid args) W) (l : List (Int × Int)) (ao : Option Addr) (n cc : Nat) (w : World) (h : PcsAt w ao n l)
    (hC : ∀ e ∈ l, ∀ W, Below w.heap.size w W → Calls Try.prog fid #[.agg #[.int .i64 e.1, .int .i64 e.2], .pointer (some ⟨cb, 0, none⟩)] W fun r W' => r = .returned (.bool (p e)) ∧ Below W.heap.size W W') :
    Calls Try.prog 60 #[.slice ao n cc, .func (.func fid) #[] #[.pointer (some ⟨cb, 0, none⟩)]] w fun e w' => e = .returned (.bool (l.any p)) ∧ Below w.heap.size w w' := by
  have HI : Hid (Calls Try.prog 77 #[.slice ao n cc, .func (.func fid) #[] #[.pointer (some ⟨cb, 0, none⟩)]] w fun e w' => ∃ r : Int, e = .returned (.int .i64 r) ∧ IdxIs p l r ∧ Below w.heap.size w w') := idxF_calls p fid cb hent l ao n cc w h hC
  clear h hC
  go_enter Try.func60, Try.ntmps60
  go_wp2_with fail
  refine HI.out.mono ?_
  rintro e w2 ⟨r, rfl, hr, hb⟩
  have HR : Hid (decide (0 ≤ r) = l.any p ∧ Below w.heap.size w w2) := ⟨hr.any, hb⟩
  clear hr hb
  go_wp2
  go_ret
  exact ⟨ret_bool HR.out.1, HR.out.2⟩
end Go.Proofs.Ytolehoibpnenlab
namespace Go.Proofs.Ytolehoibpnenlab
open Go.RowKit Go.Deep Go.Maps

/-- What is done up to j: i are kept. -/
structure KI (p : Int × Int → Bool) (l cur : List (Int × Int)) (j i : Nat) : Prop where
  len : cur.length = l.length
  lt : i < j
  le : j ≤ l.length
  head : cur.take i = (l.take j).filter fun e => !p e
  tail : cur.drop j = l.drop j
section
variable {p : Int × Int → Bool} {l cur : List (Int × Int)} {j i : Nat} {e : Int × Int}
theorem KI.get (h : KI p l cur j i) (hj : l[j]? = some e) : cur[j]? = some e := by
  have h1 : (cur.drop j)[0]? = (l.drop j)[0]? := by rw [h.tail]
  rw [List.getElem?_drop, List.getElem?_drop, Nat.add_zero] at h1
  rw [h1]; exact hj
theorem take_get (hj : l[j]? = some e) : l.take (j + 1) = l.take j ++ [e] := by
  obtain ⟨h1, h2⟩ := List.getElem?_eq_some_iff.1 hj
  rw [List.take_succ_eq_append_getElem h1, h2]
theorem KI.start {k : Nat} (hk : l[k]? = some e) (hp : p e = true) (hb : ∀ (j : Nat) (e : Int × Int), j < k → l[j]? = some e → p e = false) : KI p l l (k + 1) k := by
  refine ⟨rfl, by omega, (List.getElem?_eq_some_iff.1 hk).1, ?_, rfl⟩
  rw [take_get hk, List.filter_append, List.filter_eq_self.2 fun z hz => ?_]
  · simp [hp]
  · obtain ⟨m, hm, rfl⟩ := List.mem_iff_getElem.1 hz
    rw [List.length_take] at hm
    rw [List.getElem_take, hb m _ (by omega) (List.getElem?_eq_getElem (by omega))]
    rfl
theorem KI.skip (h : KI p l cur j i) (he : l[j]? = some e) (hp : p e = true) : KI p l cur (j + 1) i := by
  refine ⟨h.len, by have := h.lt; omega, (List.getElem?_eq_some_iff.1 he).1, ?_, ?_⟩
  · rw [take_get he, List.filter_append, h.head]; simp [hp]
  · have h1 := congrArg (List.drop 1) h.tail
    rwa [List.drop_drop, List.drop_drop] at h1
theorem KI.keep (h : KI p l cur j i) (he : l[j]? = some e) (hp : p e = false) : KI p l (cur.set i e) (j + 1) (i + 1) := by
  have hlt := h.lt
  have hjl := (List.getElem?_eq_some_iff.1 he).1
  have hil : i < cur.length := by have := h.len; omega
  refine ⟨by rw [List.length_set]; exact h.len, by omega, hjl, ?_, ?_⟩
  · rw [take_get he, List.filter_append, ← h.head, List.take_succ_eq_append_getElem (by rw [List.length_set]; exact hil), List.getElem_set_self, List.take_set_of_le (Nat.le_refl _)]
    simp [hp]
  · rw [List.drop_set_of_lt (by omega)]
    have h1 := congrArg (List.drop 1) h.tail
    rwa [List.drop_drop, List.drop_drop] at h1
theorem KI.done (h : KI p l cur j i) (hj : j = l.length) : cur.take i = l.filter fun e => !p e := by
  rw [h.head, hj, List.take_length]
end
theorem pcRow_take (l : List (Int × Int)) (i : Nat) : (pcRow l).take (i * 2) = pcRow (l.take i) := by
  unfold pcRow
  induction l generalizing i with
  | nil => simp
  | cons a r ih =>
    cases i with
    | zero => simp
    | succ i =>
      rw [List.take_succ_cons, List.flatMap_cons, List.flatMap_cons, ← ih i, show (i + 1) * 2 = (pcCells a).length + i * 2 by simp [pcCells]; omega, List.take_length_add_append]
theorem pcRow_put (l : List (Int × Int)) (i : Nat) (e : Int × Int) : ((pcRow l).set (i * 2) (.int .i64 e.1)).set (i * 2 + 1) (.int .i64 e.2) = pcRow (l.set i e) := by
  unfold pcRow
  induction l generalizing i with
  | nil => simp
  | cons a r ih =>
    cases i with
    | zero => simp [pcCells]
    | succ i =>
      rw [List.set_cons_succ, List.flatMap_cons, List.flatMap_cons, ← ih i, show (i + 1) * 2 = i * 2 + 1 + 1 by omega]
      simp [pcCells]
theorem pcRow_at {l : List (Int × Int)} {i : Nat} {e : Int × Int} (h : l[i]? = some e) : (pcRow l)[i * 2]? = some (.int .i64 e.1) ∧ (pcRow l)[i * 2 + 1]? = some (.int .i64 e.2) :=
  ⟨flat_get (f := pcCells) (s := 2) (fun _ => rfl) l i e 0 _ h rfl, flat_get (f := pcCells) (s := 2) (fun _ => rfl) l i e 1 _ h rfl⟩
end Go.Proofs.Ytolehoibpnenlab
namespace Go.Proofs.Ytolehoibpnenlab
open Go.RowKit Go.Deep Go.Maps

theorem zero49 : ∀ w, (zeroValue 42).run Try.prog w = .ok (.agg #[.int .i64 0, .int .i64 0]) w := fun w => by
  have h := Try.zeroValue42
  simp [h]
/-- The row as it is worked on. -/
structure DW (w : World) (base g n cc : Nat) (cur : List (Int × Int)) (wr : World) : Prop where
  row : wr.ownsRow base 42 2 (.slice (some ⟨g, 0, none⟩) n cc) n (pcRow cur)
  grown : w.grownBy wr (some g)
theorem DW.next {w : World} {base g n cc : Nat} {cur : List (Int × Int)} {wr w2 : World} (h : DW w base g n cc cur wr) (hb : Below wr.heap.size wr w2) : DW w base g n cc cur w2 :=
  ⟨owned_below h.row hb, grown_trans h.grown (grown_below hb)⟩
theorem DW.put {w : World} {base g n cc : Nat} {cur : List (Int × Int)} {wr : World} (h : DW w base g n cc cur wr) (i : Nat) (e : Int × Int) : DW w base g n cc (cur.set i e) ((wr.setCell ⟨g, i * 2, none⟩ (.int .i64 e.1)).setCell ⟨g, i * 2 + 1, none⟩ (.int .i64 e.2)) := by
  refine ⟨?_, grown_trans h.grown (grown_trans (grown_set _ _ _ _) (grown_set _ _ _ _))⟩
  have h1 := own_set (own_set h.row (i * 2) (.int .i64 e.1)) (i * 2 + 1) (.int .i64 e.2)
  rwa [pcRow_put] at h1
theorem DW.cell {w : World} {base g n cc : Nat} {cur : List (Int × Int)} {wr : World} (h : DW w base g n cc cur wr) {i : Nat} {e : Int × Int} (he : cur[i]? = some e) : wr.cell? ⟨g, i * 2, none⟩ = some (.int .i64 e.1) ∧ wr.cell? ⟨g, i * 2 + 1, none⟩ = some (.int .i64 e.2) ∧ (∀ j, wr.frozen? ⟨g, j, none⟩ = false) := by
  obtain ⟨h1, h2⟩ := pcRow_at he
  refine ⟨(owned_cells h.row _ _ h1).1, (owned_cells h.row _ _ h2).1, fun j => ?_⟩
  rcases h.row.2 with ⟨hv, _⟩ | ⟨g', cap', cur', hv, _, hg, _⟩
  · cases hv
  · cases hv; exact frozen_of_row wr g j _ _ hg
set_option maxRecDepth 20000 in
set_option maxHeartbeats 4000000 in
theorem delF_calls (p : Int × Int → Bool) (fid cb : Nat) (hent : ∀ args W, (callFunc fid args).run Try.prog W = .ok (.enter fid args) W) (l : List (Int × Int)) (base : Nat) (ao : Option Addr) (n cc : Nat) (w : World) (hl : l.length = n) (hs : n ≤ 100) (h : w.ownsRow base 42 2 (.slice ao n cc) n (pcRow l))
    (hC : ∀ e ∈ l, ∀ W, w.grownBy W (Value.slice ao n cc).ownBlock → Calls Try.prog fid #[.agg #[.int .i64 e.1, .int .i64 e.2], .pointer (some ⟨cb, 0, none⟩)] W fun r W' => r = .returned (.bool (p e)) ∧ Below W.heap.size W W') :
    Calls Try.prog 75 #[.slice ao n cc, .func (.func fid) #[] #[.pointer (some ⟨cb, 0, none⟩)]] w fun e w' => ∃ m : Nat, e = .returned (.slice ao m cc) ∧ m = (l.filter fun e => !p e).length ∧ w'.ownsRow base 42 2 (.slice ao m cc) m (pcRow (l.filter fun e => !p e)) ∧ w.grownBy w' (Value.slice ao n cc).ownBlock := by
  have hpc : PcsAt w ao n l := by
    rw [← hl] at h
    obtain ⟨a, c, e, hp⟩ := pcs_own h (by unfold maxLen; omega)
    injection e with e1
    rw [e1, ← hl]; exact hp
  have HI : Hid (Calls Try.prog 77 #[.slice ao n cc, .func (.func fid) #[] #[.pointer (some ⟨cb, 0, none⟩)]] w fun e w' => ∃ r : Int, e = .returned (.int .i64 r) ∧ IdxIs p l r ∧ Below w.heap.size w w') := idxF_calls p fid cb hent l ao n cc w hpc fun e he W hW => hC e he W (grown_below hW)
  have HC : Hid (∀ e ∈ l, ∀ W, w.grownBy W (Value.slice ao n cc).ownBlock → Calls Try.prog fid #[.agg #[.int .i64 e.1, .int .i64 e.2], .pointer (some ⟨cb, 0, none⟩)] W fun r W' => r = .returned (.bool (p e)) ∧ Below W.heap.size W W') := hC
  have HO : Hid (w.ownsRow base 42 2 (.slice ao n cc) n (pcRow l)) := h
  have HL : Hid (l.length = n) := hl
  clear h hC hpc hl
  go_enter Try.func75, Try.ntmps75
  go_wp2_with fail
  refine HI.out.mono ?_
  rintro e w1 ⟨r, rfl, hr, hb⟩
  clear HI
  rcases hr with ⟨rfl, hall⟩ | ⟨k, rfl, hkl, ⟨ek, hek, hpk⟩, hbf⟩
  · have HE : Hid ((l.filter fun e => !p e) = l ∧ Below w.heap.size w w1) := ⟨List.filter_eq_self.2 fun z hz => by rw [hall z hz]; rfl, hb⟩
    clear hall hb
    go_wp2
    go_ret
    refine ⟨n, rfl, by rw [HE.out.1]; exact HL.out.symm, ?_, grown_below HE.out.2⟩
    rw [HE.out.1]
    exact owned_below HO.out HE.out.2
  · have hkn : k < n := by rw [← HL.out]; exact hkl
    obtain ⟨g, hao, hbg⟩ : ∃ g, ao = some ⟨g, 0, none⟩ ∧ base ≤ g := by
      obtain ⟨g, cap, hv, hb, _⟩ := owned_some HO.out (by omega)
      injection hv with e1
      exact ⟨g, e1, hb⟩
    subst hao
    have HK : Hid (KI p l l (k + 1) k ∧ DW w base g n cc l w1) := ⟨KI.start hek hpk hbf, owned_below HO.out hb, grown_below hb⟩
    have hne : ((k : Int) == -1) = false := by simp
    clear hkl hek hpk hbf hb
    go_wp2
    go_loopg [5, 6, 7] n (fun q iv jv _ wr => ∃ (i j : Nat) (cur : List (Int × Int)), n + 1 ≤ j + q ∧ iv = .int .i64 i ∧ jv = .int .i64 j ∧ Hid (KI p l cur j i ∧ DW w base g n cc cur wr))
    case atStart => exact ⟨k, k + 1, l, by omega, rfl, by go_num, HK.out⟩
    case round =>
      clear HK
      obtain ⟨i, j, cur, hjq, rfl, rfl, HQ⟩ := hrel
      have hij := HQ.out.1.lt
      have hjn : j ≤ n := by rw [← HL.out]; exact HQ.out.1.le
      by_cases hlt : j < n
      · obtain ⟨e, he⟩ : ∃ e, l[j]? = some e := ⟨l[j]'(by rw [HL.out]; exact hlt), List.getElem?_eq_getElem _⟩
        obtain ⟨d0, d1, _⟩ := HQ.out.2.cell (HQ.out.1.get he)
        obtain ⟨o, ho⟩ : ∃ o, cur[i]? = some o := ⟨cur[i]'(by rw [HQ.out.1.len, HL.out]; omega), List.getElem?_eq_getElem _⟩
        have HA : Hid (Calls Try.prog fid #[.agg #[.int .i64 e.1, .int .i64 e.2], .pointer (some ⟨cb, 0, none⟩)] (wr.alloc (.cells #[.int .i64 e.1, .int .i64 e.2] 42)) fun r W' => r = .returned (.bool (p e)) ∧ Below (wr.alloc (.cells #[.int .i64 e.1, .int .i64 e.2] 42)).heap.size (wr.alloc (.cells #[.int .i64 e.1, .int .i64 e.2] 42)) W') := HC.out e (List.mem_of_getElem? he) _ (grown_trans HQ.out.2.grown (grown_below ((Below.refl _ _).alloc (Nat.le_refl _) _)))
        have HE : Hid (l[j]? = some e ∧ cur[i]? = some o) := ⟨he, ho⟩
        have hk0 : decide ((j : Int) < (n : Int)) = true := by simp; omega
        clear he ho
        go_wp2_with fail
        refine HA.out.mono ?_
        rintro r w2 ⟨rfl, hb2⟩
        have HN : Hid (DW w base g n cc cur w2 ∧ w2.heap[wr.heap.size]? = some (.cells #[.int .i64 e.1, .int .i64 e.2] 42 (0, 0))) := by
          have hb0 := (Below.refl wr.heap.size wr).alloc (Nat.le_refl _) (.cells #[.int .i64 e.1, .int .i64 e.2] 42)
          exact ⟨HQ.out.2.next (hb0.trans (hb2.mono hb0.size)), by rw [hb2.block _ (by simp)]; exact heap_alloc_new wr _⟩
        have b0 : w2.cell? ⟨wr.heap.size, 0, none⟩ = some (.int .i64 e.1) := blk HN.out.2 rfl
        have b1 : w2.cell? ⟨wr.heap.size, 1, none⟩ = some (.int .i64 e.2) := blk HN.out.2 rfl
        obtain ⟨s0, s1, sf⟩ := HN.out.1.cell HE.out.2
        clear hb2 HA d0 d1
        cases hp : p e with
        | true =>
          have HM : Hid (KI p l cur (j + 1) i ∧ DW w base g n cc cur w2) := ⟨HQ.out.1.skip HE.out.1 hp, HN.out.1⟩
          clear hp HN HQ HE b0 b1 s0 s1 sf
          go_wp2
          go_roundg (gk - 1)
          case measure => omega
          case rel => exact ⟨i, j + 1, cur, by omega, rfl, by go_num, HM.out⟩
        | false =>
          have HM : Hid (KI p l (cur.set i e) (j + 1) (i + 1) ∧ DW w base g n cc (cur.set i e) ((w2.setCell ⟨g, i * 2, none⟩ (.int .i64 e.1)).setCell ⟨g, i * 2 + 1, none⟩ (.int .i64 e.2))) := ⟨HQ.out.1.keep HE.out.1 hp, HN.out.1.put i e⟩
          clear hp HN HQ HE
          go_wp2
          go_roundg (gk - 1)
          case measure => omega
          case rel => exact ⟨i + 1, j + 1, cur.set i e, by omega, by go_num, by go_num, HM.out⟩
      · have hjn2 : j = n := by omega
        have hk0 : decide ((j : Int) < (n : Int)) = false := by simp; omega
        obtain ⟨hcap, hcm, hth⟩ := own_there HQ.out.2.row
        have HCl : Hid (∀ ty, (Builtin.clear_ #[37] ty #[.slice (some ⟨g, i * 2, none⟩) (n - i) (cc - i)]).run Try.prog wr = .ok (.tuple #[]) (wr.setCells g (i * 2) (Builtin.zeroCells (Value.agg #[.int .i64 0, .int .i64 0]).cells (n - i)).toList)) := fun ty =>
          run_clear_cells wr 37 42 ty _ Try.underlying37 zero49 2 rfl (by decide) (fun u hu => by simp [Value.cells] at hu; rcases hu with rfl | rfl <;> rfl) g (i * 2) (n - i) (cc - i) (by omega) (fun t ht => (hth _ (by omega)).1) (fun t ht => (hth _ (by omega)).2)
        have HM : Hid ((wr.setCells g (i * 2) (Builtin.zeroCells (Value.agg #[.int .i64 0, .int .i64 0]).cells (n - i)).toList).ownsRow base 42 2 (.slice (some ⟨g, 0, none⟩) i cc) i (pcRow (l.filter fun e => !p e)) ∧ w.grownBy (wr.setCells g (i * 2) (Builtin.zeroCells (Value.agg #[.int .i64 0, .int .i64 0]).cells (n - i)).toList) (some g) ∧ i = (l.filter fun e => !p e).length) := by
          have h1 := HQ.out.1.done (by rw [HL.out]; exact hjn2)
          have h2 := own_cut HQ.out.2.row i (i * 2) (Builtin.zeroCells (Value.agg #[.int .i64 0, .int .i64 0]).cells (n - i)).toList (by omega) (Nat.le_refl _)
          rw [pcRow_take, h1] at h2
          refine ⟨h2, grown_trans HQ.out.2.grown (grown_setCells _ _ _ _), ?_⟩
          have h3 := congrArg List.length h1
          rw [List.length_take, HQ.out.1.len, HL.out] at h3
          omega
        have hcl := HCl.out
        have hic : i < cc := by omega
        unfold maxLen at hcm
        clear HQ hth HCl hjn2
        go_wp2
        go_ret
        exact ⟨i, rfl, HM.out.2.2, HM.out.1, HM.out.2.1⟩
end Go.Proofs.Ytolehoibpnenlab
