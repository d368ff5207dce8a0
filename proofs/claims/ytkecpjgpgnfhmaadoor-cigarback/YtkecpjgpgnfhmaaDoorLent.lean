/-
  The walks of the statements' own lent and whole; a list of runs that is handed in, opened.
-/
import Derived.Test.YtkecpjgpgnfhmaaDoorSame
import Derived.Test.YtkecpjgpgnfhmaaDoorOver
import Derived.Laws.CopyOwn
import Derived.Deep.Slices
namespace Go.Proofs.YtkecpjgpgnfhmaaDoor
open Go.RowKit

theorem set_any {w : World} {b i : Nat} {cs : Array Value} {T : TypeId} {fr : Nat × Nat} (hb : w.heap[b]? = some (.cells cs T fr)) (v : Value) : (w.setCell ⟨b, i, none⟩ v).heap[b]? = some (.cells (cs.setIfInBounds i v) T fr) := by
  simp [World.setCell, Array.getElem?_modify, hb]
theorem size29 : (Tryd.prog.info? 29).map (·.size) = some 2 := by kernel_rfl
/-- copy of runs: all is read before anything is written. -/
theorem run_copy_rn (w : World) (ty : TypeId) (g dLen dCap : Nat) (a : Addr) (sLen sCap : Nat) (cur : Array Value) (cs : List Value) (hg : w.heap[g]? = some (.cells cur 29 (0, 0))) (hn : cs.length = Nat.min sLen dLen * 2)
    (hsrc : ∀ j v, cs[j]? = some v → w.cell? (a.add j) = some v) (hfit : cs.length ≤ cur.size) (h1 : ∀ v ∈ cs, v.oneCell' = true) :
    (Builtin.copy_ #[23, 23] ty #[.slice (some ⟨g, 0, none⟩) dLen dCap, .slice (some a) sLen sCap]).run Tryd.prog w = .ok (goInt (Nat.min sLen dLen)) (w.setRow g (cs ++ cur.toList.drop cs.length).toArray) := by
  have hl := run_loadCells_list (P := Tryd.prog) w a cs hsrc
  have hst := run_storeCells_at Tryd.prog g 0 29 cs 0 cur w hg (by simpa using hfit) h1
  cases hq : Tryd.prog.info? 29 with
  | none => have := size29; simp [hq] at this
  | some i =>
    have hi : i.size = 2 := by have := size29; simpa [hq] using this
    simp [Builtin.copy_, run_underlying Tryd.underlying23, Builtin.lenOf, Builtin.firstCells, sizeOf, typeInfo, hq, hi, ← hn, hl, hst]
theorem wpList_copy_rn {w : World} {ops : Array Oper} {rest : List Oper} {o : Oper} {a : Act} {Q : Exit → Act → World → Prop} (hgd : o.guard = none) (d s : Operand)
    (ho : o.op = .call { callee := .builtin .copy, args := #[d, s], argTypes := #[23, 23] }) (g dLen dCap : Nat) (ao : Option Addr) (sLen sCap : Nat) (hd : a.eval d = .slice (some ⟨g, 0, none⟩) dLen dCap) (hs : a.eval s = .slice ao sLen sCap)
    (hao : ao = none → sLen = 0 ∧ sCap = 0) (cur : Array Value) (hg : w.heap[g]? = some (.cells cur 29 (0, 0))) (cs : List Value) (hn : cs.length = Nat.min sLen dLen * 2) (hsrc : ∀ ad, ao = some ad → ∀ j v, cs[j]? = some v → w.cell? (ad.add j) = some v) (hfit : cs.length ≤ cur.size) (h1 : ∀ v ∈ cs, v.oneCell' = true)
    (B : Nat) (w0 : World) (hb : Below B w0 w) (hBg : B ≤ g)
    (h : ∀ w', Hid (w'.heap[g]? = some (.cells (cs ++ cur.toList.drop cs.length).toArray 29 (0, 0))) → Below B w0 w' → ∀ v, wpList Tryd.prog ops Q rest (a.put o.dst v) w') : wpList Tryd.prog ops Q (o :: rest) a w := by
  refine wpList_plain hgd fun K hK => ?_
  cases ao with
  | some ad =>
    have hrun := run_copy_rn w o.type g dLen dCap ad sLen sCap cur cs hg hn (hsrc ad rfl) hfit h1
    unfold Oper.wp
    simp [execOp, ho, resolve, invoke, builtin, hd, hs, hrun, Result.andThen]
    exact hK _ _ (h _ (setRow_heap w g cur _ 29 (0, 0) hg) (below_setRow hb hBg _) _)
  | none =>
    obtain ⟨rfl, rfl⟩ := hao rfl
    have hcs : cs = [] := List.eq_nil_of_length_eq_zero (by simpa using hn)
    subst hcs
    have hrun := run_copy_nil (P := Tryd.prog) w 23 23 o.type 29 ⟨g, 0, none⟩ dLen dCap Tryd.underlying23 (by rw [size29]; rfl)
    unfold Oper.wp
    simp [execOp, ho, resolve, invoke, builtin, hd, hs, hrun, Result.andThen]
    exact hK _ _ (h _ (by simpa [Hid] using hg) hb _)

theorem made_rns (n : Nat) : (madeCells #[.int .u8 0, .int .i64 0] (n * 2)).toList = rowCells (List.replicate n ((0 : UInt8), (0 : Int))) := by
  apply List.ext_getElem
  · rw [rowCells_length]; simp [madeCells]
  · intro i h1 h2
    have hi : i < n * 2 := by simpa [madeCells] using h1
    have hq : (List.replicate n ((0 : UInt8), (0 : Int)))[i / 2]? = some (0, 0) := by
      rw [List.getElem?_replicate, if_pos (by omega)]
    obtain ⟨r1, r2⟩ := rowCells_get _ _ _ hq
    simp only [madeCells, Array.toList_map, List.getElem_map]
    have hr : ∀ v, (rowCells (List.replicate n ((0 : UInt8), (0 : Int))))[i]? = some v → (rowCells (List.replicate n ((0 : UInt8), (0 : Int))))[i] = v := fun v hv => by
      rw [List.getElem?_eq_getElem h2] at hv
      exact Option.some.inj hv
    have h3 : i % 2 = 0 ∨ i % 2 = 1 := by omega
    rcases h3 with h3 | h3
    · rw [hr _ (by rw [show i / 2 * 2 = i by omega] at r1; exact r1)]
      simp [h3]
    · rw [hr _ (by rw [show i / 2 * 2 + 1 = i by omega] at r2; exact r2)]
      simp [h3]
theorem RnsAt.source {w : World} {ao : Option Addr} {len : Nat} {l : List Rn} (h : RnsAt w ao len l) : ∀ ad, ao = some ad → ∀ j v, (rowCells l)[j]? = some v → w.cell? (ad.add j) = some v := by
  intro ad e j v hj
  have hlt : j < (rowCells l).length := (List.getElem?_eq_some_iff.1 hj).1
  rw [rowCells_length, h.length] at hlt
  obtain ⟨b, off, e2, hc⟩ := h.cells (by omega)
  rw [e] at e2
  cases e2
  have hi : j / 2 < l.length := by rw [h.length]; omega
  have hq : l[j / 2]? = some l[j / 2] := List.getElem?_eq_getElem hi
  obtain ⟨c1, c2⟩ := hc _ _ hq
  obtain ⟨r1, r2⟩ := rowCells_get l _ _ hq
  rw [Go.WideShapes.add_plain]
  have h3 : j % 2 = 0 ∨ j % 2 = 1 := by omega
  rcases h3 with h3 | h3
  · rw [show j / 2 * 2 = j by omega] at r1 c1
    rw [hj] at r1; cases r1; exact c1
  · rw [show j / 2 * 2 + 1 = j by omega] at r2
    rw [show off + j / 2 * 2 + 1 = off + j by omega] at c2
    rw [hj] at r2; cases r2; exact c2
theorem RnsAt.take {w : World} {ao : Option Addr} {len : Nat} {l : List Rn} (h : RnsAt w ao len l) (k : Nat) (hk : k ≤ len) : RnsAt w ao k (l.take k) := by
  refine ⟨by rw [List.length_take, h.length]; omega, Nat.le_trans hk h.short, fun r hr => h.fits r (List.mem_of_mem_take hr), fun h0 => ?_⟩
  obtain ⟨b, off, e, hc⟩ := h.cells (by omega)
  refine ⟨b, off, e, fun i q hi => hc i q ?_⟩
  rw [List.getElem?_take] at hi
  split at hi
  · exact hi
  · cases hi
theorem row_one (l : List Rn) : ∀ v ∈ rowCells l, v.oneCell' = true := by
  intro u hu
  unfold rowCells at hu
  obtain ⟨q, _, hq⟩ := List.mem_flatMap.1 hu
  exact rn_oneCell q u hq
theorem owned_block {w : World} {B g n : Nat} {xs : List Value} (hB : B ≤ g) (hm : n ≤ maxLen) (hx : xs.length = n * 2) (h : w.heap[g]? = some (.cells xs.toArray 29 (0, 0))) : w.ownsRow B 29 2 (.slice (some ⟨g, 0, none⟩) n n) n xs :=
  ⟨hx, .inr ⟨g, n, xs.toArray, rfl, hB, h, Nat.le_refl _, hm, by simpa using hx, by simp only []; exact List.take_of_length_le (by omega)⟩⟩

/-- What lent lays behind runs. -/
def lentL (l : List Rn) : List Rn := l ++ [((0 : UInt8), (7 : Int)), ((0 : UInt8), (0 : Int))]
theorem lentL_length (l : List Rn) : (lentL l).length = l.length + 2 := by simp [lentL]

set_option maxRecDepth 100000 in
set_option maxHeartbeats 4000000 in
theorem lent_calls (ao : Option Addr) (len cap : Nat) (l : List Rn) (w : World) (hz : RnsAt w ao len l) (hao : ao = none → len = 0 ∧ cap = 0) (hlen : len ≤ 2147483647) :
    Calls Tryd.prog 12 #[.slice ao len cap] w fun e w' => ∃ g, e = .returned (.slice (some ⟨g, 0, none⟩) (len + 2) (len + 2)) ∧ w'.ownsRow w.heap.size 29 2 (.slice (some ⟨g, 0, none⟩) (len + 2) (len + 2)) (len + 2) (rowCells (lentL l)) ∧ Below w.heap.size w w' := by
  have HZ : Hid (RnsAt w ao len l) := hz
  have HAo : Hid (ao = none → len = 0 ∧ cap = 0) := hao
  clear hz hao
  obtain ⟨i0, hi, hz0, hz1, hz2⟩ := info_parts info29
  go_enter Tryd.func12, Tryd.ntmps12
  go_wp2_with (at_make; refine wpList_make_full _ rfl _ _ 23 rfl w.heap.size 29 i0 (.agg #[.int .u8 0, .int .i64 0]) 2 Tryd.underlying23 hi hz0 hz1 .i64 .i64 _ _ (len + 2) rfl rfl (by omega) (by omega) (by rw [hz2]; omega) (by unfold maxLen; omega) (Nat.le_refl _) ?_)
  intro w3 hown3 hgrow3
  have HG3 : Hid (w3.heap[w.heap.size]? = some (.cells (rowCells (List.replicate (len + 2) ((0 : UInt8), (0 : Int)))).toArray 29 (0, 0))) := by
    rw [made_rns] at hown3
    rcases hown3.2 with ⟨hv, _⟩ | ⟨g', cap', cur, hv, hb, hg, hnc, hcm, hcs, ht⟩
    · cases hv
    · cases hv
      show _ = _
      rw [hg]
      have : cur.toList = rowCells (List.replicate (len + 2) ((0 : UInt8), (0 : Int))) := by rw [← ht, List.take_of_length_le (by simp [hcs])]
      rw [← this]
  have HB3 : Hid (Below w.heap.size w w3) := (Below.refl w.heap.size w).grown hgrow3 (Nat.le_refl _) (by intro k hk; cases hk)
  clear hown3 hgrow3
  go_wp2_with (refine wpList_copy_rn rfl (.tmp 8) (.tmp 9) rfl w.heap.size (len + 2) (len + 2) ao len cap rfl rfl HAo.out _ HG3.out (rowCells l) ?c0 (HZ.out.below HB3.out).source ?c1 (row_one l) w.heap.size w HB3.out (Nat.le_refl _) ?_)
  case c0 => rw [rowCells_length, HZ.out.length]; show _ = Nat.min len (len + 2) * 2; rw [show Nat.min len (len + 2) = len from Nat.min_eq_left (by omega)]
  case c1 => rw [rowCells_length, HZ.out.length]; simp [rowCells_length]; omega
  intro w4 hg4 hb4 vcopy
  have HG4 : Hid (w4.heap[w.heap.size]? = some (.cells (rowCells (l ++ [((0 : UInt8), (0 : Int)), ((0 : UInt8), (0 : Int))])).toArray 29 (0, 0))) := by
    have := hg4.out
    show _ = _
    rw [this]
    have e : (rowCells (List.replicate (len + 2) ((0 : UInt8), (0 : Int)))).drop (rowCells l).length = rowCells [((0 : UInt8), (0 : Int)), ((0 : UInt8), (0 : Int))] := by
      rw [← List.replicate_append_replicate, rowCells_append, show (rowCells l).length = (rowCells (List.replicate len ((0 : UInt8), (0 : Int)))).length by rw [rowCells_length, rowCells_length, HZ.out.length, List.length_replicate], List.drop_left]
      rfl
    rw [e, rowCells_append]
  have HB4 : Hid (Below w.heap.size w w4) := hb4
  have hO4 := owned_block (B := w.heap.size) (n := len + 2) (Nat.le_refl _) (by unfold maxLen; omega) (by rw [rowCells_length]; simp [HZ.out.length]) HG4.out
  obtain ⟨hc4, hf4⟩ := owned_cells hO4 (len * 2 + 1) (.int .i64 0) (by
    have := (rowCells_get (l ++ [((0 : UInt8), (0 : Int)), ((0 : UInt8), (0 : Int))]) len (0, 0) (by rw [List.getElem?_append_right (by rw [HZ.out.length]; omega), HZ.out.length]; simp)).2
    exact this)
  have HE : Hid ((w4.setCell ⟨w.heap.size, len * 2 + 1, none⟩ (.int .i64 7)).ownsRow w.heap.size 29 2 (.slice (some ⟨w.heap.size, 0, none⟩) (len + 2) (len + 2)) (len + 2) (rowCells (lentL l)) ∧ Below w.heap.size w (w4.setCell ⟨w.heap.size, len * 2 + 1, none⟩ (.int .i64 7))) := by
    refine ⟨?_, hb4.setCell (p := ⟨w.heap.size, len * 2 + 1, none⟩) (Nat.le_refl _) _⟩
    have h := owned_set hO4 (len * 2 + 1) (.int .i64 7)
    rw [rowCells_set _ len (0, 0) 7 (by rw [List.getElem?_append_right (by rw [HZ.out.length]; omega), HZ.out.length]; simp)] at h
    have e : (l ++ [((0 : UInt8), (0 : Int)), ((0 : UInt8), (0 : Int))]).set len (0, 7) = lentL l := by
      rw [← HZ.out.length, List.set_append_right _ _ (Nat.le_refl _), Nat.sub_self]; rfl
    rw [e] at h
    exact h
  clear hg4 hb4 hO4 HG4 HG3 HB3 HB4
  go_wp2
  go_ret
  exact ⟨_, rfl, HE.out⟩

theorem lent_rns {w : World} {B g len : Nat} {l : List Rn} (h : w.ownsRow B 29 2 (.slice (some ⟨g, 0, none⟩) (len + 2) (len + 2)) (len + 2) (rowCells (lentL l))) (hl : l.length = len) (hf : ∀ r ∈ l, fitI r.2) : RnsAt w (some ⟨g, 0, none⟩) len l := by
  have h1 := (owned_rns h (fun r hr => by
    simp [lentL] at hr
    rcases hr with hr | rfl | rfl
    · exact hf r hr
    · unfold fitI; decide
    · unfold fitI; decide)).take len (by omega)
  rwa [lentL, List.take_append_of_le_length (by omega), List.take_of_length_le (by omega)] at h1

set_option maxHeartbeats 1000000 in
theorem whole_calls (g : Nat) (ao : Option Addr) (len cap B : Nat) (l : List Rn) (w : World) (ho : w.ownsRow B 29 2 (.slice (some ⟨g, 0, none⟩) (len + 2) (len + 2)) (len + 2) (rowCells (lentL l))) (hz : RnsAt w ao len l) (hlen : len ≤ 2147483647) :
    Calls Tryd.prog 19 #[.slice (some ⟨g, 0, none⟩) (len + 2) (len + 2), .slice ao len cap] w fun e w' => e = .returned (.bool true) ∧ Below w.heap.size w w' := by
  have HO : Hid (w.ownsRow B 29 2 (.slice (some ⟨g, 0, none⟩) (len + 2) (len + 2)) (len + 2) (rowCells (lentL l))) := ho
  have HLn : Hid (l.length = len) := hz.length
  have HSame : Hid (Calls Tryd.prog 11 #[.slice (some ⟨g, 0, none⟩) len (len + 2), .slice ao len cap] w fun e w' => e = .returned (.bool true) ∧ ∃ k, w' = w.drewN k) := by
    have h1 := same_calls (some ⟨g, 0, none⟩) ao len len (len + 2) cap l l w (lent_rns ho hz.length hz.fits) hz
    rw [decide_eq_true rfl] at h1
    exact h1
  clear ho hz
  go_enter Tryd.func19, Tryd.ntmps19
  go_wp2_with fail
  refine HSame.out.mono ?_
  rintro e w1 ⟨rfl, kd, hw1⟩
  have hb1 : Below w.heap.size w w1 := by rw [hw1]; exact below_drewN (Below.refl _ _) kd
  have hO := owned_below HO.out hb1
  have HB1 : Hid (Below w.heap.size w w1) := hb1
  obtain ⟨m1, m2⟩ := rowCells_get (lentL l) len (0, 7) (by rw [lentL, List.getElem?_append_right (by rw [HLn.out]; omega), HLn.out]; simp)
  obtain ⟨n1, n2⟩ := rowCells_get (lentL l) (len + 1) (0, 0) (by rw [lentL, List.getElem?_append_right (by rw [HLn.out]; omega), HLn.out, show len + 1 - len = 1 by omega]; rfl)
  have c1 := (owned_cells hO _ _ m1).1
  have c2 := (owned_cells hO _ _ m2).1
  have c3 := (owned_cells hO _ _ n1).1
  have c4 := (owned_cells hO _ _ n2).1
  have hgd := guard29
  have heq1 : ∀ W, (Op.equalIn 10000 29 (.agg #[.int .u8 0, .int .i64 7]) (.agg #[.int .u8 0, .int .i64 7])).run Tryd.prog W = .ok true W := fun W => by
    have := equal_rn (0, 7) (0, 7) W
    rw [decide_eq_true rfl] at this; exact this
  have heq2 : ∀ W, (Op.equalIn 10000 29 (.agg #[.int .u8 0, .int .i64 0]) (.agg #[.int .u8 0, .int .i64 0])).run Tryd.prog W = .ok true W := fun W => by
    have := equal_rn (0, 0) (0, 0) W
    rw [decide_eq_true rfl] at this; exact this
  clear hw1 hb1 hO m1 m2 n1 n2 HO HSame
  go_wp2
  go_ret
  exact ⟨rfl, HB1.out⟩

theorem rns_none {H : Type} {enc : TypeId × Value → H} {W : World} {base : Nat} {spare : Nat → Bool} {held : Bool} {fuel : Nat} {ao : Option Addr} {len cap : Nat} {x : DataW H × List MemPlace} (h : DataW.trod enc Tryd.prog W base spare held fuel 23 (Value.slice ao len cap).cells.toList = some x) : ao = none → len = 0 ∧ cap = 0 := by
  intro hn
  subst hn
  rcases Deep.open_slice Tryd.underlying23 h with ⟨hc, _⟩ | ⟨a, l, c, m, n, D, Pl, hc, _⟩
  · simp [Value.cells] at hc; exact hc
  · simp [Value.cells] at hc
theorem byte_wf {n : Int} (h : (Lit.int .u8 n).wf = true) : ∃ c : UInt8, n = (c.toNat : Int) := by
  have h2 : 0 ≤ n ∧ n ≤ 255 := by simpa [Lit.wf, IntKind.min, IntKind.max, IntKind.signed, IntKind.bits] using h
  exact ⟨UInt8.ofNat n.toNat, by rw [UInt8.toNat_ofNat', Nat.mod_eq_of_lt (by omega)]; omega⟩
theorem int_wf {n : Int} (h : (Lit.int .i64 n).wf = true) : fitI n := by
  have h2 : -9223372036854775808 ≤ n ∧ n ≤ 9223372036854775807 := by simpa [Lit.wf, IntKind.min, IntKind.max, IntKind.signed, IntKind.bits] using h
  exact h2
theorem open_rns {H : Type} {enc : TypeId × Value → H} {W : World} {base : Nat} {spare : Nat → Bool} {held : Bool} {fuel : Nat} {cs : List Value} {x : DataW H × List MemPlace} (h : DataW.trod enc Tryd.prog W base spare held fuel 23 cs = some x) :
    ∃ ao len cap l, cs = [.slice ao len cap] ∧ len ≤ cap ∧ RnsAt W ao len l := by
  rcases Deep.open_slice Tryd.underlying23 h with ⟨rfl, _⟩ | ⟨a, len, cap, m, n, D, Pl, rfl, hb, hl, hm, hmm, _, hx⟩
  · exact ⟨none, 0, 0, [], rfl, Nat.le_refl _, RnsAt.nil _ _⟩
  · have ce : Tryd.prog.cellsOf 29 = 2 := by kernel_rfl
    have hlm : len ≤ m := by rw [hmm]; split <;> omega
    have each : ∀ i, i < len → ∃ q : Rn, W.cell? (a.add (i * 2)) = some (.int .u8 (q.1.toNat : Int)) ∧ W.cell? (a.add (i * 2 + 1)) = some (.int .i64 q.2) ∧ fitI q.2 := by
      intro i hi
      obtain ⟨cs', h1, h2⟩ := hx i (by omega)
      rw [ce] at h1
      obtain ⟨_, hlen, hcell⟩ := World.cells?_some h1
      obtain ⟨xs, k, hk, hxy, _, hxl, hf⟩ := DataW.trod_struct Tryd.underlying29 h2
      match cs', hlen with
      | [v0, v1], _ =>
        have g0 := hf 0 _ rfl
        have g1 := hf 1 _ rfl
        have c5 : Tryd.prog.cellsOf 5 = 1 := by kernel_rfl
        have c3 : Tryd.prog.cellsOf 3 = 1 := by kernel_rfl
        match xs, hxl with
        | [y0, y1], _ =>
          simp [c5, c3] at g0 g1
          obtain ⟨s0, e0, _, z0⟩ := DataW.trod_int Tryd.underlying5 g0
          obtain ⟨s1, e1, _, z1⟩ := DataW.trod_int Tryd.underlying3 g1
          simp at e0 e1
          subst e0; subst e1
          obtain ⟨c, rfl⟩ := byte_wf z0
          have k0 := hcell 0 (by omega)
          have k1 := hcell 1 (by omega)
          rw [Deep.add_add] at k0 k1
          exact ⟨(c, s1), by simpa using k0, by simpa using k1, int_wf z1⟩
    obtain ⟨q, hq⟩ := Deep.choose_lt each
    refine ⟨some a, len, cap, (List.range len).map q, rfl, hl, ⟨by simp, by omega, ?_, fun h0 => ?_⟩⟩
    · intro r hr
      obtain ⟨i, hi, rfl⟩ := List.mem_map.1 hr
      exact (hq i (by simpa using hi)).2.2
    · obtain ⟨b, off, spot⟩ := a
      have hspot : spot = none := by simpa [Addr.add] using World.cell?_spot (hq 0 h0).1
      subst hspot
      refine ⟨b, off, rfl, fun i p hi => ?_⟩
      have hil : i < len := by
        have := (List.getElem?_eq_some_iff.1 hi).1; simpa using this
      have hp : p = q i := by
        rw [List.getElem?_map, List.getElem?_range hil] at hi
        simpa using hi.symm
      subst hp
      obtain ⟨r0, r1, _⟩ := hq i hil
      rw [Go.WideShapes.add_plain] at r0 r1
      exact ⟨r0, by rw [Nat.add_assoc]; exact r1⟩
end Go.Proofs.YtkecpjgpgnfhmaaDoor
