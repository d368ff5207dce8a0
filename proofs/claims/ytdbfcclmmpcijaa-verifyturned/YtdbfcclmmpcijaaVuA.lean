/-
  The walk of Used.
-/
import Derived.Test.YtdbfcclmmpcijaaVrA
import Derived.Test.YtdbfcclmmpcijaaWgh
import Derived.Deep.WholeRow
import Derived.Deep.Cut
namespace Go.Proofs.Ytdbfcclmmpcijaa
open Go.RowKit

/-- Is a register written by these instructions? -/
def usR (l : List Qd) (regs : Int) (r : Nat) : Bool := l.any fun q => wrB q.1 && decide (q.2.1 < regs) && q.2.1 == (r : Int)
def usL (l : List Qd) (regs : Int) (n : Nat) : List Int := ((List.range n).filter (usR l regs)).map Int.ofNat
/-- What Used tells. -/
def usdB (c : Cd) (a : Int) : List Int × Int :=
  if rightB c = false then ([], 160) else if a < 0 ∨ (c.cell.length : Int) < a then ([], 1) else (usL (c.cell.take a.toNat) c.regs 16, 0)
theorem usL_succ (l : List Qd) (regs : Int) (n : Nat) : usL l regs (n + 1) = usL l regs n ++ (if usR l regs n then [(n : Int)] else []) := by
  simp only [usL, List.range_succ, List.filter_append, List.map_append]
  congr 1
  cases h : usR l regs n <;> simp [h]
theorem usL_len (l : List Qd) (regs : Int) (n : Nat) : (usL l regs n).length ≤ n := by
  simp only [usL, List.length_map]
  exact Nat.le_trans (List.length_filter_le _ _) (by simp)
def wtC (f : Nat → Bool) : Array Value := Array.ofFn (n := 16) fun i => .bool (f i.val)
theorem wt_size (f : Nat → Bool) : (wtC f).size = 16 := by simp [wtC]
theorem wt_get (f : Nat → Bool) {i : Nat} (h : i < 16) : (wtC f)[i]? = some (.bool (f i)) := by simp [wtC, h]
theorem wt_set (f : Nat → Bool) (k : Nat) : (wtC f).setIfInBounds k (.bool true) = wtC (fun i => f i || i == k) := by
  apply Array.ext_getElem?
  intro j
  rw [Array.getElem?_setIfInBounds]
  by_cases hj : j < 16
  · rw [wt_get _ hj, wt_get _ hj, wt_size]
    by_cases e : k = j
    · subst e; simp [hj]
    · have e' : ¬ j = k := fun h => e h.symm
      simp [e, e']
  · rw [Array.getElem?_eq_none (by rw [wt_size]; omega), Array.getElem?_eq_none (by rw [wt_size]; omega)]
    simp [wt_size]
    omega
theorem usR_nil (regs : Int) : usR [] regs = fun _ => false := rfl
theorem usR_snoc (l : List Qd) (q : Qd) (regs : Int) (k : Nat) (h : (wrB q.1 && decide (q.2.1 < regs)) = true) (hk : q.2.1 = (k : Int)) : usR (l ++ [q]) regs = fun i => usR l regs i || i == k := by
  funext i
  simp only [usR, List.any_append, List.any_cons, List.any_nil, Bool.or_false]
  rw [h, hk, Bool.true_and]
  have : (((k : Int) == (i : Int)) : Bool) = (i == k) := by rw [Bool.eq_iff_iff, beq_iff_eq, beq_iff_eq]; omega
  rw [this]
theorem usR_skip (l : List Qd) (q : Qd) (regs : Int) (h : (wrB q.1 && decide (q.2.1 < regs)) = false) : usR (l ++ [q]) regs = usR l regs := by
  funext i
  simp only [usR, List.any_append, List.any_cons, List.any_nil, Bool.or_false]
  rw [h, Bool.false_and, Bool.or_false]
theorem run_index62 (A : Array Value) (k : Nat) (b : Bool) (hk : k < 16) (hA : A[k]? = some (.bool b)) (W : World) : (Instr.index 62 (.agg A) (.int .i64 (k : Int))).run Try.prog W = .ok (.bool b) W := by
  have h4 : (Try.prog.info? 4).map (·.size) = some 1 := by kernel_rfl
  cases hq : Try.prog.info? 4 with
  | none => simp [hq] at h4
  | some i =>
    have hi : i.size = 1 := by simpa [hq] using h4
    have hlt : ¬ 16 ≤ k := by omega
    simp [Instr.index, run_underlying Try.underlying62, asIntOf, hlt, sizeOf, typeInfo, hq, hi, go_sem, part, hA]
theorem wpList_load_row {P : Program} {ops : Array Oper} {rest : List Oper} {op : Oper} {a : Act} {w : World} {Q : Exit → Act → World → Prop} (hgd : op.guard = none) (ty : TypeId) (x : Operand) (ho : op.op = .load ty x) (g n : Nat) (e : TypeId) (c : Array Value) (f : Nat × Nat)
    (hx : a.eval x = .pointer (some ⟨g, 0, none⟩)) (hg : w.heap[g]? = some (.cells c ty f)) (hu : P.underlying ty = some (.array n e)) (hi : (P.info? ty).map (·.size) = some c.size)
    (h : wpList P ops Q rest (a.put op.dst (.agg c)) w) : wpList P ops Q (op :: rest) a w :=
  wpList_plain hgd fun K hK => by
    unfold Oper.wp execOp
    simp only [ho, hx, Instr.loadAt, Instr.sureAddr, Sem.run_bind, Sem.run_pure, Result.andThen_ok, run_loadVar_row _ _ ty ty c f _ hg hu rfl hi]
    exact hK _ _ h
/-- The box, the table. -/
structure Us (w wr : World) (g : Nat) (cs : Array Value) (f : Nat → Bool) : Prop where
  low : Below w.heap.size w wr
  lt : w.heap.size < g
  box : wr.heap[w.heap.size]? = some (.cells cs 26 (0, 0))
  tab : wr.heap[g]? = some (.cells (wtC f) 62 (0, 0))
theorem Us.next {w wr w2 : World} {g : Nat} {cs : Array Value} {f : Nat → Bool} (h : Us w wr g cs f) (hb : Below wr.heap.size wr w2) : Us w w2 g cs f :=
  ⟨h.low.trans (hb.mono h.low.size), h.lt, by rw [hb.block _ (lt_block h.box)]; exact h.box, by rw [hb.block _ (lt_block h.tab)]; exact h.tab⟩
theorem Us.put {w wr : World} {g : Nat} {cs : Array Value} {f f' : Nat → Bool} (h : Us w wr g cs f) (k : Nat) (hf : f' = fun i => f i || i == k) : Us w (wr.setCell ⟨g, k, none⟩ (.bool true)) g cs f' := by
  have hl := h.lt
  exact ⟨h.low.setCell (p := ⟨g, k, none⟩) (by show w.heap.size ≤ g; omega) _, h.lt, by rw [Below.heap_setCell _ _ _ _ (by show w.heap.size ≠ g; omega)]; exact h.box, by rw [heap_setCell_same _ _ _ _ _ _ h.tab, wt_set, hf]⟩
theorem Us.cell {w wr : World} {g : Nat} {cs : Array Value} {f : Nat → Bool} (h : Us w wr g cs f) (i : Nat) {v : Value} (hv : cs[i]? = some v) : wr.cell? ⟨w.heap.size, i, none⟩ = some v := cell_block h.box i v hv
theorem run_cut23 (ia : Option Addr) (n c m : Nat) (hm : m ≤ c) (W : World) : (Instr.slice 23 (.slice ia n c) none (some (.int .i64 (m : Int))) none).run Try.prog W = .ok (.slice ia m c) W := by
  have h : (m : Int) ≤ (c : Int) := by omega
  rw [run_slice_h (w := W) (t := 23) (a := ia) (len := n) (cap := c) (ht := by kernel_rfl) .i64 (m : Int) (by omega) h]
  have hz : ((sizeOf (Try.prog.elem 23)).run Try.prog W) = .ok 4 W := by kernel_rfl
  rw [hz]
  cases ia with
  | none => simp [Result.andThen, sliced]
  | some ad => simp [Result.andThen, sliced, Addr.add]
theorem own_blk {w : World} {base : Nat} {e : TypeId} {size : Nat} {v : Value} {n : Nat} {xs : List Value} (h : w.ownsRow base e size v n xs) : ∀ k, v.ownBlock = some k → base ≤ k := by
  intro k hk
  rcases h.2 with ⟨hv, _⟩ | ⟨g, cap, cur, hv, hb, _⟩
  · rw [hv] at hk; cases hk
  · rw [hv] at hk; simp [Value.ownBlock] at hk; omega
theorem info3 : (Try.prog.info? 3).map (fun i => (i.zero, i.size, i.bytes)) = some (some (.int .i64 0), 1, 8) := by kernel_rfl
theorem take_snoc {l : List Qd} {k : Nat} {q : Qd} (h : l[k]? = some q) : l.take (k + 1) = l.take k ++ [q] := by
  have hk : k < l.length := (List.getElem?_eq_some_iff.1 h).1
  rw [List.take_succ_eq_append_getElem hk]
  rw [List.getElem?_eq_getElem hk] at h
  cases h; rfl
theorem usd0 {c : Cd} {a : Int} (h : rightB c = false) : usdB c a = ([], 160) := by unfold usdB; rw [if_pos h]
theorem usd1 {c : Cd} {a : Int} (h : rightB c = true) (h2 : a < 0 ∨ (c.cell.length : Int) < a) : usdB c a = ([], 1) := by unfold usdB; rw [if_neg (by rw [h]; decide), if_pos h2]
theorem usd2 {c : Cd} {a : Int} (h : rightB c = true) (h2 : ¬ (a < 0 ∨ (c.cell.length : Int) < a)) : usdB c a = (usL (c.cell.take a.toNat) c.regs 16, 0) := by unfold usdB; rw [if_neg (by rw [h]; decide), if_neg h2]
theorem own_nil1 (w : World) (b : Nat) : w.ownsRow b 3 1 (.slice none 0 0) 0 [] := ⟨rfl, .inl ⟨rfl, rfl⟩⟩
theorem usd_ret {c : Cd} {a : Int} {l : List Int} {e : Int} {w w' : World} {v : Value} (hU : usdB c a = (l, e)) (ho : w'.ownsRow w.heap.size 3 1 v l.length (intVals l)) (hb : Below w.heap.size w w') :
    ∃ u, Ending.returned (.tuple #[v, .int .i64 e]) = .returned (.tuple #[u, .int .i64 (usdB c a).2]) ∧ w'.ownsRow w.heap.size 3 1 u (usdB c a).1.length (intVals (usdB c a).1) ∧ Below w.heap.size w w' := by
  rw [hU]; exact ⟨v, rfl, ho, hb⟩
theorem one_int (y : Int) : ∀ v ∈ [Value.int .i64 y], v.oneCell' = true := by intro v hv; simp at hv; subst hv; rfl
set_option maxRecDepth 10000 in
set_option maxHeartbeats 2000000 in
theorem used_calls (c : Cd) (s : Ls) (a : Int) (w : World) (h : CdAt w c s) (hcap : s.i.n ≤ s.i.c) :
    Calls Try.prog 14 #[.agg (cdCells c s), .int .i64 a] w fun e w' => ∃ v, e = .returned (.tuple #[v, .int .i64 (usdB c a).2]) ∧ w'.ownsRow w.heap.size 3 1 v (usdB c a).1.length (intVals (usdB c a).1) ∧ Below w.heap.size w w' := by
  have HC : Hid (CdAt w c s) := h
  have hm := h.cell.short
  unfold maxLen at hm
  clear h
  obtain ⟨r1, h1⟩ : ∃ r, rightB c = r := ⟨_, rfl⟩
  have H1 : Hid (rightB c = r1) := h1
  clear h1
  rw [show cdCells c s = #[.int .i64 c.letters, .int .i64 c.planes, .int .i64 c.regs, .int .i64 c.lo, .int .i64 c.hi, .int .i64 c.most, .slice s.t.a s.t.n s.t.c, .slice s.k.a s.k.n s.k.c, .slice s.i.a s.i.n s.i.c, .slice s.r.a s.r.n s.r.c] from rfl]
  go_enter Try.func14, Try.ntmps14
  go_wp2_with fail
  refine (right_calls c s _ (HC.out.below (below_new _))).mono ?_
  rintro e w1 ⟨rfl, hb⟩
  rw [H1.out]
  have HX : Hid (Bx w (cdCells c s) w1) := (Bx.start w _).next hb
  clear hb
  cases r1
  · go_wp2
    go_ret2
    exact usd_ret (usd0 H1.out) (own_nil1 _ _) HX.out.low
  have c8 := HX.out.cell 8 (.slice s.i.a s.i.n s.i.c) rfl
  by_cases ha : a < 0
  · have hd : decide (a < 0) = true := by simp [ha]
    go_wp2
    go_ret2
    exact usd_ret (usd1 H1.out (.inl ha)) (own_nil1 _ _) HX.out.low
  have hd : decide (a < 0) = false := by simp; omega
  by_cases hg : (s.i.n : Int) < a
  · have hd2 : decide ((s.i.n : Int) < a) = true := by simp [hg]
    have HE : Hid (usdB c a = ([], 1)) := usd1 H1.out (.inr (by rw [HC.out.cell.length]; exact hg))
    clear hg
    go_wp2
    go_ret2
    exact usd_ret HE.out (own_nil1 _ _) HX.out.low
  have hd2 : decide ((s.i.n : Int) < a) = false := by simp; omega
  have HE : Hid (usdB c a = (usL (c.cell.take a.toNat) c.regs 16, 0)) := usd2 H1.out (by rw [HC.out.cell.length]; omega)
  obtain ⟨m, rfl⟩ : ∃ m : Nat, a = m := ⟨a.toNat, by omega⟩
  rw [Int.toNat_natCast] at HE
  have hmn : m ≤ s.i.n := by omega
  clear ha hg
  obtain ⟨st, sk, ⟨ia, n3, ic⟩, sr⟩ := s
  simp only at hcap hm c8 hd2 hmn ⊢
  have hd3 : decide (n3 < m) = false := by simp; omega
  have HN3 : Hid (c.cell.length = n3) := HC.out.cell.length
  have HU0 : Hid (Us w (w1.alloc (.cells #[.bool false, .bool false, .bool false, .bool false, .bool false, .bool false, .bool false, .bool false, .bool false, .bool false, .bool false, .bool false, .bool false, .bool false, .bool false, .bool false] 62)) w1.heap.size (cdCells c ⟨st, sk, ⟨ia, n3, ic⟩, sr⟩) (usR (c.cell.take 0) c.regs)) :=
    ⟨HX.out.low.alloc HX.out.low.size _, HX.out.size, by rw [(below_new _).block _ HX.out.size]; exact HX.out.box, heap_alloc_new _ _⟩
  go_upto_region 6 with (fail)
  clear c8
  generalize w1.alloc (.cells #[.bool false, .bool false, .bool false, .bool false, .bool false, .bool false, .bool false, .bool false, .bool false, .bool false, .bool false, .bool false, .bool false, .bool false, .bool false, .bool false] 62) = wt at *
  generalize w1.heap.size = g at *
  have c8 := HU0.out.cell 8 (v := .slice ia n3 ic) rfl
  have hsl := run_cut23 ia n3 ic m (by omega)
  clear hcap
  go_wp2
  clear hsl
  have HR : Hid (Rt c) := rt_of H1.out
  go_loopw [8, 29] (fun _ i wr => ∃ k : Nat, k ≤ m ∧ i = .int .i64 k ∧ Us w wr g (cdCells c ⟨st, sk, ⟨ia, n3, ic⟩, sr⟩) (usR (c.cell.take k) c.regs)) (fun _ i _ => m - (intOf i).toNat)
  case atStart => exact ⟨0, Nat.zero_le _, rfl, HU0.out⟩
  case round =>
    obtain ⟨k, hk, rfl, hus⟩ := hrel
    have HU : Hid (Us w wr g (cdCells c ⟨st, sk, ⟨ia, n3, ic⟩, sr⟩) (usR (c.cell.take k) c.regs)) := hus
    clear hus HU0 c8
    by_cases hlt : k < m
    · have hkl : k < c.cell.length := by rw [HN3.out]; omega
      obtain ⟨q, hq⟩ := get_lt (l := c.cell) (k := k) hkl
      obtain ⟨bb, off, hra, hcs⟩ := ((HC.out.below HU.out.low).cell).cells (by show 0 < n3; omega)
      obtain ⟨c1, c2, c3, c4⟩ := hcs k q hq
      have HT : Hid (c.cell.take (k + 1) = c.cell.take k ++ [q]) := take_snoc hq
      have HQ : Hid (0 ≤ q.2.1) := (HR.out.cell q (List.mem_of_getElem? hq)).2.1.1
      clear hcs hq hkl
      obtain ⟨x, y, z, u⟩ := q
      simp only at c1 c2 c3 c4 hra
      subst hra
      go_upto_region 9 with (fail)
      have HU1 : Hid (Us w (wr.alloc (.cells #[.int .i64 x, .int .i64 y, .int .i64 z, .int .i64 u] 35)) g (cdCells c ⟨st, sk, ⟨some ⟨bb, off, none⟩, n3, ic⟩, sr⟩) (usR (c.cell.take k) c.regs)) := HU.out.next (below_new _)
      have HB : Hid ((wr.alloc (.cells #[.int .i64 x, .int .i64 y, .int .i64 z, .int .i64 u] 35)).heap[wr.heap.size]? = some (.cells #[.int .i64 x, .int .i64 y, .int .i64 z, .int .i64 u] 35 (0, 0))) := heap_alloc_new wr _
      clear c1 c2 c3 c4 HU
      generalize wr.alloc (.cells #[.int .i64 x, .int .i64 y, .int .i64 z, .int .i64 u] 35) = wd at *
      generalize wr.heap.size = gb at *
      have b0 := cell_block HB.out 0 (.int .i64 x) rfl
      have b1 := cell_block HB.out 1 (.int .i64 y) rfl
      have p2 := HU1.out.cell 2 (v := .int .i64 c.regs) rfl
      obtain ⟨r1, h1⟩ : ∃ r, wrB x = r := ⟨_, rfl⟩
      have H2 : Hid (wrB x = r1) := h1
      clear h1
      by_cases hy : y < c.regs
      · have hyd : decide (y < c.regs) = true := by simp [hy]
        obtain ⟨yk, rfl⟩ : ∃ n : Nat, y = n := ⟨y.toNat, by have hy0 : 0 ≤ y := HQ.out; omega⟩
        have hy16 : yk < 16 := by have := HR.out.regs; omega
        have t0 := cell_block HU1.out.tab yk _ (wt_get _ hy16)
        have f0 := frozen_of_row wd g yk _ _ HU1.out.tab
        cases r1
        · have HF : Hid (usR (c.cell.take (k + 1)) c.regs = usR (c.cell.take k) c.regs) := by show _ = _; rw [HT.out]; exact usR_skip _ _ _ (by show (wrB x && _) = false; rw [H2.out]; rfl)
          clear hy hy16
          go_wp2_with (go_at_call 26; refine (writes_calls _ _).mono ?_; rintro e w1 ⟨rfl, rfl⟩; rw [H2.out])
          go_roundw
          case rel => exact ⟨k + 1, by omega, by go_num, by rw [HF.out]; exact HU1.out⟩
          case measure => simp [intOf]; omega
        · have HF : Hid (usR (c.cell.take (k + 1)) c.regs = fun i => usR (c.cell.take k) c.regs i || i == yk) := by show _ = _; rw [HT.out]; exact usR_snoc _ _ _ _ (by show (wrB x && decide ((yk : Int) < c.regs)) = true; rw [H2.out, hyd]; rfl) rfl
          clear hy
          go_wp2_with (go_at_call 26; refine (writes_calls _ _).mono ?_; rintro e w1 ⟨rfl, rfl⟩; rw [H2.out])
          go_roundw
          case rel => exact ⟨k + 1, by omega, by go_num, HU1.out.put yk HF.out⟩
          case measure => simp [intOf]; omega
      · have hyd : decide (y < c.regs) = false := by simp; omega
        have HF : Hid (usR (c.cell.take (k + 1)) c.regs = usR (c.cell.take k) c.regs) := by show _ = _; rw [HT.out]; exact usR_skip _ _ _ (by show (wrB x && decide (y < c.regs)) = false; rw [hyd, Bool.and_false])
        clear hy
        cases r1
        · go_wp2_with (go_at_call 26; refine (writes_calls _ _).mono ?_; rintro e w1 ⟨rfl, rfl⟩; rw [H2.out])
          go_roundw
          case rel => exact ⟨k + 1, by omega, by go_num, by rw [HF.out]; exact HU1.out⟩
          case measure => simp [intOf]; omega
        · go_wp2_with (go_at_call 26; refine (writes_calls _ _).mono ?_; rintro e w1 ⟨rfl, rfl⟩; rw [H2.out])
          go_roundw
          case rel => exact ⟨k + 1, by omega, by go_num, by rw [HF.out]; exact HU1.out⟩
          case measure => simp [intOf]; omega
    · obtain rfl : k = m := by omega
      clear hk hlt
      obtain ⟨A, hA⟩ : ∃ A, wtC (usR (c.cell.take k) c.regs) = A := ⟨_, rfl⟩
      have HA : Hid (∀ j, j < 16 → A[j]? = some (.bool (usR (c.cell.take k) c.regs j))) := fun j hj => by rw [← hA]; exact wt_get _ hj
      have HTb : Hid (wr.heap[g]? = some (.cells A 62 (0, 0)) ∧ A.size = 16) := ⟨by rw [← hA]; exact HU.out.tab, by rw [← hA]; exact wt_size _⟩
      have HL : Hid (Below w.heap.size w wr) := HU.out.low
      clear hA HU
      have hsz : (Try.prog.info? 62).map (·.size) = some A.size := by rw [HTb.out.2]; kernel_rfl
      go_upto_region 13 with (fail)
      refine wp_region_list ?_
      refine wpList_load_row rfl 62 (.tmp 6) rfl g 16 4 A (0, 0) (by simp [Act.eval]) HTb.out.1 Try.underlying62 hsz ?_
      simp only [Act.put]
      clear hsz HTb
      obtain ⟨i1, hi, hz0, hz1, hz2⟩ := info_parts info3
      go_wp2
      have HF : Hid (∀ j, (usL (c.cell.take k) c.regs j).length ≤ j) := fun j => usL_len _ _ j
      go_loopw [9, 10, 11, 48] (fun v _ _ i wr => ∃ j : Nat, j ≤ 16 ∧ i = .int .i64 j ∧ wr.ownsRow w.heap.size 3 1 v (usL (c.cell.take k) c.regs j).length (intVals (usL (c.cell.take k) c.regs j)) ∧ Below w.heap.size w wr) (fun _ _ _ i _ => 16 - (intOf i).toNat)
      case atStart => exact ⟨0, Nat.zero_le _, rfl, own_nil1 _ _, HL.out⟩
      case round =>
        obtain ⟨j, hj, rfl, hown, hlow⟩ := hrel
        clear HL
        have hlen := HF.out j
        obtain ⟨ak, cak, rfl⟩ := owned_shape hown
        have HSc : Hid (usL (c.cell.take k) c.regs (j + 1) = usL (c.cell.take k) c.regs j ++ (if usR (c.cell.take k) c.regs j then [(j : Int)] else [])) := usL_succ _ _ _
        have HO : Hid (wr.ownsRow w.heap.size 3 1 (.slice ak (usL (c.cell.take k) c.regs j).length cak) (usL (c.cell.take k) c.regs j).length (intVals (usL (c.cell.take k) c.regs j)) ∧ Below w.heap.size w wr) := ⟨hown, hlow⟩
        have hws := hlow.size
        clear hown hlow
        by_cases hlt : j < 16
        · obtain ⟨b, hb⟩ : ∃ b, usR (c.cell.take k) c.regs j = b := ⟨_, rfl⟩
          have hix := run_index62 A j b hlt (by rw [HA.out j hlt, hb])
          rw [hb] at HSc
          generalize usL (c.cell.take k) c.regs j = l at *
          clear hb
          generalize hn : l.length = n at *
          have HN : Hid (l.length = n) := hn
          clear hn
          cases b
          · go_wp2
            go_roundw
            case rel => exact ⟨j + 1, by omega, by go_num, by rw [HSc.out]; simp only [Bool.false_eq_true, if_false, List.append_nil]; rw [HN.out]; exact HO.out.1, HO.out.2⟩
            case measure => simp [intOf]; omega
          · go_wp2_with (at_builtin; go_loud (refine wpList_append_own _ rfl _ _ 22 rfl w.heap.size 3 i1 (.int .i64 0) 1 8 Try.underlying22 hi hz0 hz1 hz2 rfl (by decide) (.slice ak n cak) _ _ rfl (HO.out.1.alloc _) ⟨_, 0, none⟩ 1 1 [.int .i64 j] rfl rfl ?c1 (one_int j) ?c3 ?c4 ?c5 ?_))
            case c3 => unfold maxLen; omega
            case c4 => omega
            case c5 => first | omega | (simp; omega)
            intro v' w3 hown' hgrow _
            have H3 : Hid (w3.ownsRow w.heap.size 3 1 v' (l ++ [(j : Int)]).length (intVals (l ++ [(j : Int)])) ∧ Below w.heap.size w w3) := by
              refine ⟨?_, (HO.out.2.alloc HO.out.2.size _).grown hgrow (by have := HO.out.2.size; simp; omega) (own_blk HO.out.1)⟩
              rw [intVals, List.map_append, List.length_append, HN.out]; exact hown'
            clear hown' hgrow HO
            go_wp2
            go_roundw
            case rel => exact ⟨j + 1, by omega, by go_num, by rw [HSc.out]; exact H3.out.1, H3.out.2⟩
            case measure => simp [intOf]; omega
        · obtain rfl : j = 16 := by omega
          clear HSc hlen
          generalize (usL (c.cell.take k) c.regs 16) = l at *
          go_wp2
          go_ret2
          exact usd_ret HE.out HO.out.1 HO.out.2
end Go.Proofs.Ytdbfcclmmpcijaa
