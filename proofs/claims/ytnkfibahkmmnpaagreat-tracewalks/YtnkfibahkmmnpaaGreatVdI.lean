/-
  The walk of the document's greatest.
-/
import Derived.Test.YtnkfibahkmmnpaaGreatKac
import Derived.Test.YtnkfibahkmmnpaaGreatKm
namespace Go.Proofs.YtnkfibahkmmnpaaGreat
open Go.RowKit

theorem run_append_nothing' {P : Program} {w : World} (base : Nat) (t ty e : TypeId) (i : TypeInfo) (size : Nat) (ht : P.underlying t = some (.slice e)) (hi : P.info? e = some i)
    (v : Value) (n : Nat) (xs : List Value) (hown : w.ownsRow base e size v n xs) (c : Nat) : (Builtin.append_ #[t, t] ty #[v, .slice none 0 c]).run P w = .ok v w := by
  rcases hown.2 with ⟨hv, h0⟩ | ⟨g, cap, cur, hv, _, _, hc, _⟩
  · subst hv
    simp [Builtin.append_, run_underlying ht, sizeOf, typeInfo, hi, Builtin.lenOf, run_firstCells_none]
  · subst hv
    simp [Builtin.append_, run_underlying ht, sizeOf, typeInfo, hi, Builtin.lenOf, run_firstCells_none, hc, storeCells]
/-- What may be appended: some cells, or nothing. -/
def SrcAt (w : World) (ao : Option Addr) (m size : Nat) (news : List Value) : Prop := news.length = m * size ∧ (∀ u ∈ news, u.oneCell' = true) ∧ ((ao = none ∧ m = 0) ∨ ∃ ad, ao = some ad ∧ ∀ j u, news[j]? = some u → w.cell? (ad.add j) = some u)
theorem wpList_append_opt {P : Program} {w : World} {ops : Array Oper} {rest : List Oper} {o : Oper} {a : Act} {Q : Exit → Act → World → Prop} (hgd : o.guard = none) (s x : Operand) (t : TypeId)
    (ho : o.op = .call { callee := .builtin .append, args := #[s, x], argTypes := #[t, t] })
    (base : Nat) (e : TypeId) (i : TypeInfo) (z : Value) (size bytes : Nat) (ht : P.underlying t = some (.slice e)) (hi : P.info? e = some i) (hz : i.zero = some z)
    (hsize : i.size = size) (hby : i.bytes = bytes) (hzs : z.cells.size = size) (hsz : 0 < size)
    (v : Value) (n : Nat) (xs : List Value) (hs : a.eval s = v) (hown : w.ownsRow base e size v n xs)
    (ao : Option Addr) (m c : Nat) (news : List Value) (hx : a.eval x = .slice ao m c) (hsrc : SrcAt w ao m size news)
    (h63 : n + m ≤ maxLen) (hbytes : (n + m) * bytes ≤ 140737488355328) (hbase : base ≤ w.heap.size)
    (h : ∀ v' w', w'.ownsRow base e size v' (n + m) (xs ++ news) → w.grownBy w' v.ownBlock → wpList P ops Q rest (a.put o.dst v') w') : wpList P ops Q (o :: rest) a w := by
  obtain ⟨hl, h1, ⟨hao, hm⟩ | ⟨ad, hao, hc⟩⟩ := hsrc
  · subst hao hm
    have hn : news = [] := List.eq_nil_of_length_eq_zero (by rw [hl]; simp)
    subst hn
    refine wpList_plain hgd fun K hK => ?_
    have hrun := run_append_nothing' (P := P) (w := w) base t o.type e i size ht hi v n xs hown c
    unfold Oper.wp
    simp [execOp, ho, resolve, invoke, builtin, hs, hx, hrun, Result.andThen]
    exact hK _ _ (h v w (by rw [List.append_nil, Nat.add_zero]; exact hown) ⟨rfl, rfl, rfl, Nat.le_refl _, fun _ _ _ => rfl⟩)
  · subst hao
    exact wpList_append_own w hgd s x t ho base e i z size bytes ht hi hz hsize hby hzs hsz v n xs hs hown ad m c news hx hl hc h1 h63 hbytes hbase fun v' w' a1 a2 _ => h v' w' a1 a2
theorem IntsAt.src {w : World} {ao : Option Addr} {n : Nat} {l : List Int} (h : IntsAt w ao n l) : SrcAt w ao n 1 (intVals l) := by
  refine ⟨by rw [intVals_length, h.length]; omega, ints_oneC l, ?_⟩
  cases ao with
  | some ad => exact .inr ⟨ad, rfl, h.source ad rfl⟩
  | none =>
    refine .inl ⟨rfl, ?_⟩
    rcases Nat.eq_zero_or_pos n with h0 | h0
    · exact h0
    · obtain ⟨b, off, e, _⟩ := h.cells h0
      cases e
/-- The greatest number without its sign. -/
def gtN (n z : Int) : Int := if (if n < z then z else n) < -z then -z else (if n < z then z else n)
def gtB (l : List Int) : Int := l.foldl gtN 0
theorem gtN_le (n z m : Int) : gtN n z ≤ m ↔ n ≤ m ∧ z ≤ m ∧ -m ≤ z := by
  unfold gtN; split <;> split <;> omega
theorem gt_fold (m : Int) : ∀ (l : List Int) (n : Int), l.foldl gtN n ≤ m ↔ n ≤ m ∧ ∀ z ∈ l, -m ≤ z ∧ z ≤ m
  | [], n => by simp
  | z :: l, n => by
    rw [List.foldl_cons, gt_fold m l (gtN n z), gtN_le]
    simp only [List.mem_cons, forall_eq_or_imp]
    constructor
    · rintro ⟨⟨a, b, c⟩, d⟩; exact ⟨a, ⟨c, b⟩, d⟩
    · rintro ⟨a, ⟨c, b⟩, d⟩; exact ⟨⟨a, b, c⟩, d⟩
theorem gtB_le {l : List Int} {m : Int} (hm : 0 ≤ m) : gtB l ≤ m ↔ allB (-m) m l = true := by
  unfold gtB
  rw [gt_fold, allB, List.all_eq_true]
  simp only [inB_iff]
  exact ⟨fun h => h.2, fun h => ⟨hm, h⟩⟩
theorem gt_step {l : List Int} {k : Nat} {z : Int} (h : l[k]? = some z) : gtB (l.take (k + 1)) = gtN (gtB (l.take k)) z := by
  have hk : k < l.length := (List.getElem?_eq_some_iff.1 h).1
  rw [List.getElem?_eq_getElem hk] at h
  cases h
  unfold gtB
  rw [List.take_succ_eq_append_getElem hk, List.foldl_append]
  rfl
theorem gtB_bd {l : List Int} {M : Int} (hM : 0 ≤ M) (h : ∀ z ∈ l, -M ≤ z ∧ z ≤ M) (k : Nat) : gtB (l.take k) ≤ M := by
  unfold gtB
  rw [gt_fold]
  exact ⟨hM, fun z hz => h z (List.mem_of_mem_take hz)⟩
set_option maxRecDepth 10000 in
set_option maxHeartbeats 2000000 in
theorem dgreatest_calls (c : Cd) (s : Ls) (w : World) (h : CdAt w c s) (ht : s.t.n ≤ 400) (hk : s.k.n ≤ 100) (hb : ∀ z ∈ c.table ++ c.consts, -1152921504606846976 ≤ z ∧ z ≤ 1152921504606846976) :
    Calls Tryz.prog 35 #[.agg (cdCells c s)] w fun e w' => e = .returned (.int .i64 (gtB (c.table ++ c.consts))) ∧ Below w.heap.size w w' := by
  have HC : Hid (CdAt w c s) := h
  have HL : Hid (c.table.length = s.t.n ∧ c.consts.length = s.k.n) := ⟨h.table.length, h.consts.length⟩
  have HBd : Hid (∀ z ∈ c.table ++ c.consts, -1152921504606846976 ≤ z ∧ z ≤ 1152921504606846976) := hb
  obtain ⟨l, hl⟩ : ∃ l, c.table ++ c.consts = l := ⟨_, rfl⟩
  rw [hl] at HBd ⊢
  have HLl : Hid (c.table ++ c.consts = l) := hl
  clear h hb hl
  have H0 : Hid (Bo w (w.alloc (.cells #[.int .i64 c.letters, .int .i64 c.planes, .int .i64 c.regs, .int .i64 c.lo, .int .i64 c.hi, .int .i64 c.most, .slice s.t.a s.t.n s.t.c, .slice s.k.a s.k.n s.k.c, .slice s.i.a s.i.n s.i.c, .slice s.r.a s.r.n s.r.c] 26)) #[.int .i64 c.letters, .int .i64 c.planes, .int .i64 c.regs, .int .i64 c.lo, .int .i64 c.hi, .int .i64 c.most, .slice s.t.a s.t.n s.t.c, .slice s.k.a s.k.n s.k.c, .slice s.i.a s.i.n s.i.c, .slice s.r.a s.r.n s.r.c]) := ⟨below_new _, heap_alloc_new _ _⟩
  rw [show cdCells c s = #[.int .i64 c.letters, .int .i64 c.planes, .int .i64 c.regs, .int .i64 c.lo, .int .i64 c.hi, .int .i64 c.most, .slice s.t.a s.t.n s.t.c, .slice s.k.a s.k.n s.k.c, .slice s.i.a s.i.n s.i.c, .slice s.r.a s.r.n s.r.c] from rfl]
  obtain ⟨i1, hi, hz0, hz1, hz2⟩ := info_parts info3
  go_enter Tryz.func35, Tryz.ntmps35
  go_upto_region 3 with (fail)
  generalize w.alloc (.cells #[.int .i64 c.letters, .int .i64 c.planes, .int .i64 c.regs, .int .i64 c.lo, .int .i64 c.hi, .int .i64 c.most, .slice s.t.a s.t.n s.t.c, .slice s.k.a s.k.n s.k.c, .slice s.i.a s.i.n s.i.c, .slice s.r.a s.r.n s.r.c] 26) = w1 at *
  have p6 := H0.out.cell 6 (v := .slice s.t.a s.t.n s.t.c) rfl
  go_wp2_with (at_builtin; go_loud (refine wpList_append_opt rfl _ _ 22 rfl w.heap.size 3 i1 (.int .i64 0) 1 8 Tryz.underlying22 hi hz0 hz1 hz2 rfl (by decide) (.slice none 0 0) _ _ rfl (own_nil1 _ _) s.t.a s.t.n s.t.c (intVals c.table) rfl (HC.out.below H0.out.low).table.src ?c3 ?c4 H0.out.low.size ?_))
  case c3 => unfold maxLen; omega
  case c4 => omega
  intro v1 w2 o1 g1
  have HB2 : Hid (Bo w w2 #[.int .i64 c.letters, .int .i64 c.planes, .int .i64 c.regs, .int .i64 c.lo, .int .i64 c.hi, .int .i64 c.most, .slice s.t.a s.t.n s.t.c, .slice s.k.a s.k.n s.k.c, .slice s.i.a s.i.n s.i.c, .slice s.r.a s.r.n s.r.c] ∧ w2.ownsRow w.heap.size 3 1 v1 s.t.n (intVals c.table)) := ⟨H0.out.own (own_nil1 _ _) g1, by simpa using o1⟩
  clear o1 g1 H0 p6
  go_upto_region 4 with (fail)
  have p7 := HB2.out.1.cell 7 (v := .slice s.k.a s.k.n s.k.c) rfl
  go_wp2_with (at_builtin; go_loud (refine wpList_append_opt rfl _ _ 22 rfl w.heap.size 3 i1 (.int .i64 0) 1 8 Tryz.underlying22 hi hz0 hz1 hz2 rfl (by decide) v1 _ _ rfl HB2.out.2 s.k.a s.k.n s.k.c (intVals c.consts) rfl (HC.out.below HB2.out.1.low).consts.src ?c3 ?c4 HB2.out.1.low.size ?_))
  case c3 => unfold maxLen; omega
  case c4 => omega
  intro v2 w3 o2 g2
  obtain ⟨a2, c2, rfl⟩ := owned_shape o2
  have hl := HLl.out
  obtain ⟨n, hn⟩ : ∃ n, s.t.n + s.k.n = n := ⟨_, rfl⟩
  have HB3 : Hid (w3.ownsRow w.heap.size 3 1 (.slice a2 n c2) n (intVals l)) := by
    have : intVals c.table ++ intVals c.consts = intVals l := by rw [← hl]; simp [intVals]
    rw [this, hn] at o2; exact o2
  have HLw : Hid (Below w.heap.size w w3) := (HB2.out.1.own HB2.out.2 g2).low
  have HN : Hid (l.length = n) := by show _ = _; rw [← hl, ← hn, List.length_append, HL.out.1, HL.out.2]
  rw [hn]
  have hn5 : n ≤ 500 := by omega
  clear o2 g2 HB2 p7 hl hn
  have HIn : Hid (IntsAt w3 a2 n l) := ints_owned HB3.out
  go_wp2
  go_loop [3, 5] (fun m i => ∃ k : Nat, k ≤ n ∧ i = .int .i64 k ∧ m = .int .i64 (gtB (l.take k))) (fun _ i => n - (intOf i).toNat)
  case atStart => exact ⟨0, Nat.zero_le _, rfl, rfl⟩
  case round =>
    obtain ⟨k, hk, rfl, rfl⟩ := hrel
    by_cases hlt : k < n
    · obtain ⟨b2, o2, rfl, hcs⟩ := HIn.out.cells (by omega)
      have x1 := hcs k hlt
      have hz := getD_get (zs := l) (k := k) (by rw [HN.out]; exact hlt)
      obtain ⟨z, hzz⟩ : ∃ z, l.getD k 0 = z := ⟨_, rfl⟩
      rw [hzz] at x1 hz
      have hzb := HBd.out z (List.mem_of_getElem? hz)
      have HS : Hid (gtB (l.take (k + 1)) = gtN (gtB (l.take k)) z) := gt_step hz
      obtain ⟨G, hG⟩ : ∃ G, gtB (l.take k) = G := ⟨_, rfl⟩
      rw [hG] at HS ⊢
      clear hG hcs hzz hz
      obtain ⟨z1, z2⟩ := hzb
      by_cases t1 : G < z
      · have t1d : decide (G < z) = true := by simpa using t1
        by_cases t2 : z < -z
        · have t2d : decide (z < -z) = true := by simpa using t2
          have HV : Hid (gtB (l.take (k + 1)) = -z) := by show _ = _; rw [HS.out]; simp [gtN, t1, t2]
          clear t1 t2 HS
          go_wp2
          go_round
          case rel => exact ⟨k + 1, by omega, by go_num, by rw [HV.out]⟩
          case measure => simp [intOf]; omega
        · have t2d : decide (z < -z) = false := by simpa using t2
          have HV : Hid (gtB (l.take (k + 1)) = z) := by show _ = _; rw [HS.out]; simp [gtN, t1, t2]
          clear t1 t2 HS
          go_wp2
          go_round
          case rel => exact ⟨k + 1, by omega, by go_num, by rw [HV.out]⟩
          case measure => simp [intOf]; omega
      · have t1d : decide (G < z) = false := by simpa using t1
        by_cases t2 : G < -z
        · have t2d : decide (G < -z) = true := by simpa using t2
          have HV : Hid (gtB (l.take (k + 1)) = -z) := by show _ = _; rw [HS.out]; simp [gtN, t1, t2]
          clear t1 t2 HS
          go_wp2
          go_round
          case rel => exact ⟨k + 1, by omega, by go_num, by rw [HV.out]⟩
          case measure => simp [intOf]; omega
        · have t2d : decide (G < -z) = false := by simpa using t2
          have HV : Hid (gtB (l.take (k + 1)) = G) := by show _ = _; rw [HS.out]; simp [gtN, t1, t2]
          clear t1 t2 HS
          go_wp2
          go_round
          case rel => exact ⟨k + 1, by omega, by go_num, by rw [HV.out]⟩
          case measure => simp [intOf]; omega
    · obtain rfl : k = n := by omega
      have HF : Hid (gtB (l.take k) = gtB l) := by show _ = _; rw [List.take_of_length_le (by rw [HN.out]; exact Nat.le_refl _)]
      go_wp2
      go_ret
      exact ⟨ret_int HF.out, HLw.out⟩

end Go.Proofs.YtnkfibahkmmnpaaGreat
