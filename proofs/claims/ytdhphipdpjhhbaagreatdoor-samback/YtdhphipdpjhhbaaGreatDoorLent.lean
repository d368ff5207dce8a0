/-
  The walks of the statements' own lent and whole; a list of runs that is handed in, opened.
-/
import Derived.Test.YtdhphipdpjhhbaaGreatDoorSameR
import Derived.Test.YtdhphipdpjhhbaaGreatDoorCells
import Derived.Test.YtdhphipdpjhhbaaGreatDoorOver
import Derived.Laws.CopyOwn
import Derived.Deep.Slices
namespace Go.Proofs.YtdhphipdpjhhbaaGreatDoor
open Go.RowKit

theorem set_any {w : World} {b i : Nat} {cs : Array Value} {T : TypeId} {fr : Nat × Nat} (hb : w.heap[b]? = some (.cells cs T fr)) (v : Value) : (w.setCell ⟨b, i, none⟩ v).heap[b]? = some (.cells (cs.setIfInBounds i v) T fr) := by
  simp [World.setCell, Array.getElem?_modify, hb]
theorem size29 : (Tryz.prog.info? 37).map (·.size) = some 2 := by kernel_rfl
/-- copy of runs: all is read before anything is written. -/
theorem run_copy_rn (w : World) (ty : TypeId) (g dLen dCap : Nat) (a : Addr) (sLen sCap : Nat) (cur : Array Value) (cs : List Value) (hg : w.heap[g]? = some (.cells cur 37 (0, 0))) (hn : cs.length = Nat.min sLen dLen * 2)
    (hsrc : ∀ j v, cs[j]? = some v → w.cell? (a.add j) = some v) (hfit : cs.length ≤ cur.size) (h1 : ∀ v ∈ cs, v.oneCell' = true) :
    (Builtin.copy_ #[22, 22] ty #[.slice (some ⟨g, 0, none⟩) dLen dCap, .slice (some a) sLen sCap]).run Tryz.prog w = .ok (goInt (Nat.min sLen dLen)) (w.setRow g (cs ++ cur.toList.drop cs.length).toArray) := by
  have hl := run_loadCells_list (P := Tryz.prog) w a cs hsrc
  have hst := run_storeCells_at Tryz.prog g 0 37 cs 0 cur w hg (by simpa using hfit) h1
  cases hq : Tryz.prog.info? 37 with
  | none => have := size29; simp [hq] at this
  | some i =>
    have hi : i.size = 2 := by have := size29; simpa [hq] using this
    simp [Builtin.copy_, run_underlying Tryz.underlying22, Builtin.lenOf, Builtin.firstCells, sizeOf, typeInfo, hq, hi, ← hn, hl, hst]
theorem wpList_copy_rn {w : World} {ops : Array Oper} {rest : List Oper} {o : Oper} {a : Act} {Q : Exit → Act → World → Prop} (hgd : o.guard = none) (d s : Operand)
    (ho : o.op = .call { callee := .builtin .copy, args := #[d, s], argTypes := #[22, 22] }) (g dLen dCap : Nat) (ao : Option Addr) (sLen sCap : Nat) (hd : a.eval d = .slice (some ⟨g, 0, none⟩) dLen dCap) (hs : a.eval s = .slice ao sLen sCap)
    (hao : ao = none → sLen = 0 ∧ sCap = 0) (cur : Array Value) (hg : w.heap[g]? = some (.cells cur 37 (0, 0))) (cs : List Value) (hn : cs.length = Nat.min sLen dLen * 2) (hsrc : ∀ ad, ao = some ad → ∀ j v, cs[j]? = some v → w.cell? (ad.add j) = some v) (hfit : cs.length ≤ cur.size) (h1 : ∀ v ∈ cs, v.oneCell' = true)
    (B : Nat) (w0 : World) (hb : Below B w0 w) (hBg : B ≤ g)
    (h : ∀ w', Hid (w'.heap[g]? = some (.cells (cs ++ cur.toList.drop cs.length).toArray 37 (0, 0))) → Below B w0 w' → ∀ v, wpList Tryz.prog ops Q rest (a.put o.dst v) w') : wpList Tryz.prog ops Q (o :: rest) a w := by
  refine wpList_plain hgd fun K hK => ?_
  cases ao with
  | some ad =>
    have hrun := run_copy_rn w o.type g dLen dCap ad sLen sCap cur cs hg hn (hsrc ad rfl) hfit h1
    unfold Oper.wp
    simp [execOp, ho, resolve, invoke, builtin, hd, hs, hrun, Result.andThen]
    exact hK _ _ (h _ (setRow_heap w g cur _ 37 (0, 0) hg) (below_setRow hb hBg _) _)
  | none =>
    obtain ⟨rfl, rfl⟩ := hao rfl
    have hcs : cs = [] := List.eq_nil_of_length_eq_zero (by simpa using hn)
    subst hcs
    have hrun := run_copy_nil (P := Tryz.prog) w 22 22 o.type 37 ⟨g, 0, none⟩ dLen dCap Tryz.underlying22 (by rw [size29]; rfl)
    unfold Oper.wp
    simp [execOp, ho, resolve, invoke, builtin, hd, hs, hrun, Result.andThen]
    exact hK _ _ (h _ (by simpa [Hid] using hg) hb _)

theorem made_rns (n : Nat) : (madeCells #[.int .u8 0, .int .i64 0] (n * 2)).toList = rowCells (List.replicate n ((0 : UInt8), (0 : Int))) := by
  apply List.ext_getElem
  · rw [rowCells_length]; simp [madeCells]
  · intro i h1 h2
    have hi : i < n * 2 := by simpa [madeCells] using h1
    have hq : (List.replicate n ((0 : UInt8), (0 : Int)))[i / 2]? = some (0, 0) := by
      rw [List.getElem?_replicate, if_pos (by omega)]
    obtain ⟨r1, r2⟩ := rowCells_get _ _ _ hq
    simp only [madeCells, Array.toList_map, List.getElem_map]
    have hr : ∀ v, (rowCells (List.replicate n ((0 : UInt8), (0 : Int))))[i]? = some v → (rowCells (List.replicate n ((0 : UInt8), (0 : Int))))[i] = v := fun v hv => by
      rw [List.getElem?_eq_getElem h2] at hv
      exact Option.some.inj hv
    have h3 : i % 2 = 0 ∨ i % 2 = 1 := by omega
    rcases h3 with h3 | h3
    · rw [hr _ (by rw [show i / 2 * 2 = i by omega] at r1; exact r1)]
      simp [h3]
    · rw [hr _ (by rw [show i / 2 * 2 + 1 = i by omega] at r2; exact r2)]
      simp [h3]
theorem RnsAt.source {w : World} {ao : Option Addr} {len : Nat} {l : List Rn} (h : RnsAt w ao len l) : ∀ ad, ao = some ad → ∀ j v, (rowCells l)[j]? = some v → w.cell? (ad.add j) = some v := by
  intro ad e j v hj
  have hlt : j < (rowCells l).length := (List.getElem?_eq_some_iff.1 hj).1
  rw [rowCells_length, h.length] at hlt
  obtain ⟨b, off, e2, hc⟩ := h.cells (by omega)
  rw [e] at e2
  cases e2
  have hi : j / 2 < l.length := by rw [h.length]; omega
  have hq : l[j / 2]? = some l[j / 2] := List.getElem?_eq_getElem hi
  obtain ⟨c1, c2⟩ := hc _ _ hq
  obtain ⟨r1, r2⟩ := rowCells_get l _ _ hq
  rw [Go.WideShapes.add_plain]
  have h3 : j % 2 = 0 ∨ j % 2 = 1 := by omega
  rcases h3 with h3 | h3
  · rw [show j / 2 * 2 = j by omega] at r1 c1
    rw [hj] at r1; cases r1; exact c1
  · rw [show j / 2 * 2 + 1 = j by omega] at r2
    rw [show off + j / 2 * 2 + 1 = off + j by omega] at c2
    rw [hj] at r2; cases r2; exact c2
theorem RnsAt.take {w : World} {ao : Option Addr} {len : Nat} {l : List Rn} (h : RnsAt w ao len l) (k : Nat) (hk : k ≤ len) : RnsAt w ao k (l.take k) := by
  refine ⟨by rw [List.length_take, h.length]; omega, Nat.le_trans hk h.short, fun r hr => h.fits r (List.mem_of_mem_take hr), fun h0 => ?_⟩
  obtain ⟨b, off, e, hc⟩ := h.cells (by omega)
  refine ⟨b, off, e, fun i q hi => hc i q ?_⟩
  rw [List.getElem?_take] at hi
  split at hi
  · exact hi
  · cases hi
theorem row_one (l : List Rn) : ∀ v ∈ rowCells l, v.oneCell' = true := by
  intro u hu
  unfold rowCells at hu
  obtain ⟨q, _, hq⟩ := List.mem_flatMap.1 hu
  exact rn_oneCell q u hq
theorem owned_block {w : World} {B g n : Nat} {xs : List Value} (hB : B ≤ g) (hm : n ≤ maxLen) (hx : xs.length = n * 2) (h : w.heap[g]? = some (.cells xs.toArray 37 (0, 0))) : w.ownsRow B 37 2 (.slice (some ⟨g, 0, none⟩) n n) n xs :=
  ⟨hx, .inr ⟨g, n, xs.toArray, rfl, hB, h, Nat.le_refl _, hm, by simpa using hx, by simp only []; exact List.take_of_length_le (by omega)⟩⟩

/-- What lent lays behind runs. -/
def lentL (l : List Rn) : List Rn := l ++ [((0 : UInt8), (7 : Int)), ((0 : UInt8), (0 : Int))]
theorem lentL_length (l : List Rn) : (lentL l).length = l.length + 2 := by simp [lentL]

theorem owned_not {w : World} {base : Nat} {e : TypeId} {size : Nat} {g len cap n : Nat} {xs : List Value} (h : w.ownsRow base e size (.slice (some ⟨g, 0, none⟩) len cap) n xs) {j : Nat} (hj : g ≠ j) (i : Nat) (v : Value) : (w.setCell ⟨j, i, none⟩ v).ownsRow base e size (.slice (some ⟨g, 0, none⟩) len cap) n xs :=
  owned_of_block h fun k cur hk _ => Below.heap_setCell w _ v k (fun e' => by
    have e1 : k = j := e'
    have e2 : some g = some k := hk
    cases e2; exact hj e1)
/-- Where lent stands: the record handed in, its answer, the runs made. -/
structure LnAt (w : World) (box : Array Value) (xs : List Value) (W : World) : Prop where
  low : Below w.heap.size w W
  box : W.heap[w.heap.size]? = some (.cells box 24 (0, 0))
  ans : W.heap[w.heap.size + 1]? = some (.cells zero8 24 (0, 0))
  row : W.heap[w.heap.size + 1 + 1]? = some (.cells xs.toArray 37 (0, 0))

set_option maxRecDepth 20000 in
set_option maxHeartbeats 4000000 in
theorem lent_calls (v : RV) (l : List Rn) (w : World) (hz : RnsAt w v.ao v.len l) (hao : v.ao = none → v.len = 0 ∧ v.cap = 0) (hlen : v.len ≤ 2147483647) :
    Calls Tryz.prog 11 #[v.val] w fun e w' => ∃ g, e = .returned (RV.val { v with ao := some ⟨g, 0, none⟩, cap := v.len + 2 }) ∧ w'.ownsRow w.heap.size 37 2 (.slice (some ⟨g, 0, none⟩) (v.len + 2) (v.len + 2)) (v.len + 2) (rowCells (lentL l)) ∧ Below w.heap.size w w' := by
  obtain ⟨nm, m, rf, p, ao, len, cap, b, q, sc⟩ := v
  simp only at hz hao hlen
  simp only [RV.val]
  have HZ : Hid (RnsAt w ao len l) := hz
  have HAo : Hid (ao = none → len = 0 ∧ cap = 0) := hao
  clear hz hao
  have hres : Tryz.f11.results = #[.cell 2 24] := by kernel_rfl
  obtain ⟨i0, hi, hz0, hz1, hz2⟩ := info_parts info29
  obtain ⟨q1, q2, q3⟩ := alloc2_heap w (.cells #[.string nm, .bool m, .string rf, .int .i64 p, .slice ao len cap, .string b, .string q, .int .i64 sc] 24) (.cells zero8 24)
  have HQ : Hid (∃ wx : World, wx = (w.alloc (.cells #[.string nm, .bool m, .string rf, .int .i64 p, .slice ao len cap, .string b, .string q, .int .i64 sc] 24)).alloc (.cells zero8 24) ∧ Below w.heap.size w wx) := ⟨_, rfl, q3⟩
  go_enter Tryz.func11, Tryz.ntmps11
  go_wp2_with (at_make; refine wpList_make_full _ rfl _ _ 22 rfl (w.heap.size + 2) 37 i0 (.agg #[.int .u8 0, .int .i64 0]) 2 Tryz.underlying22 hi hz0 hz1 .i64 .i64 _ _ (len + 2) rfl rfl (by omega) (by omega) (by rw [hz2]; omega) (by unfold maxLen; omega) (by simp) ?_)
  intro w3 hown3 hgrow3
  have HL3 : Hid (LnAt w #[.string nm, .bool m, .string rf, .int .i64 p, .slice ao len cap, .string b, .string q, .int .i64 sc] (rowCells (List.replicate (len + 2) ((0 : UInt8), (0 : Int)))) w3) := by
    refine ⟨(q3.grown hgrow3 (by simp; omega) (by intro k hk; cases hk)), ?_, ?_, ?_⟩
    · rw [hgrow3.block _ (by simp; omega) (by simp)]; exact q1
    · rw [hgrow3.block _ (by simp) (by simp)]; exact q2
    · rw [made_rns] at hown3
      rcases hown3.2 with ⟨hv, _⟩ | ⟨g', cap', cur, hv, hb, hg, hnc, hcm, hcs, ht⟩
      · cases hv
      · cases hv
        rw [hg]
        have : cur.toList = rowCells (List.replicate (len + 2) ((0 : UInt8), (0 : Int))) := by rw [← ht, List.take_of_length_le (by simp [hcs])]
        rw [← this]
  clear hown3 hgrow3 q1 q2 q3 HQ
  have z4 := cellB HL3.out.box (i := 4) rfl
  go_wp2_with (refine wpList_copy_rn rfl (.tmp 9) (.tmp 11) rfl (w.heap.size + 1 + 1) (len + 2) (len + 2) ao len cap rfl rfl HAo.out _ HL3.out.row (rowCells l) ?c0 (HZ.out.below HL3.out.low).source ?c1 (row_one l) (w.heap.size + 2) w3 (Below.refl _ _) (Nat.le_refl _) ?_)
  case c0 => rw [rowCells_length, HZ.out.length]; show _ = Nat.min len (len + 2) * 2; rw [show Nat.min len (len + 2) = len from Nat.min_eq_left (by omega)]
  case c1 => rw [rowCells_length, HZ.out.length]; simp [rowCells_length]; omega
  intro w4 hg4 hb4 vcopy
  have HL4 : Hid (LnAt w #[.string nm, .bool m, .string rf, .int .i64 p, .slice ao len cap, .string b, .string q, .int .i64 sc] (rowCells (l ++ [((0 : UInt8), (0 : Int)), ((0 : UInt8), (0 : Int))])) w4) := by
    refine ⟨HL3.out.low.trans (hb4.mono (by omega)), by rw [hb4.block _ (by omega)]; exact HL3.out.box, by rw [hb4.block _ (by omega)]; exact HL3.out.ans, ?_⟩
    rw [hg4.out]
    have e : (rowCells (List.replicate (len + 2) ((0 : UInt8), (0 : Int)))).drop (rowCells l).length = rowCells [((0 : UInt8), (0 : Int)), ((0 : UInt8), (0 : Int))] := by
      rw [← List.replicate_append_replicate, rowCells_append, show (rowCells l).length = (rowCells (List.replicate len ((0 : UInt8), (0 : Int)))).length by rw [rowCells_length, rowCells_length, HZ.out.length, List.length_replicate], List.drop_left]
      rfl
    rw [e, rowCells_append]
  have hO4 := owned_block (B := w.heap.size) (n := len + 2) (by omega) (by unfold maxLen; omega) (by rw [rowCells_length]; simp [HZ.out.length]) HL4.out.row
  obtain ⟨hc4, hf4⟩ := owned_cells hO4 (len * 2 + 1) (.int .i64 0) (by
    have := (rowCells_get (l ++ [((0 : UInt8), (0 : Int)), ((0 : UInt8), (0 : Int))]) len (0, 0) (by rw [List.getElem?_append_right (by rw [HZ.out.length]; omega), HZ.out.length]; simp)).2
    exact this)
  have HO4 := hO4
  clear hO4 z4 HL3 hg4 hb4
  obtain ⟨z0, z1, z2, z3, z4, z5, z6, z7⟩ := cells8 HL4.out.box
  have zf_ : ∀ k, w4.frozen? ⟨w.heap.size, k, none⟩ = false := freeB HL4.out.box
  have yf_ : ∀ k, w4.frozen? ⟨w.heap.size + 1, k, none⟩ = false := freeB HL4.out.ans
  obtain ⟨y0, y1, y2, y3, y4, y5, y6, y7⟩ := cells8 (show w4.heap[w.heap.size + 1]? = some (.cells #[.string ⟨#[]⟩, .bool false, .string ⟨#[]⟩, .int .i64 0, .slice none 0 0, .string ⟨#[]⟩, .string ⟨#[]⟩, .int .i64 0] 24 (0, 0)) from HL4.out.ans)
  have HOd : Hid (w4.ownsRow w.heap.size 37 2 (.slice (some ⟨w.heap.size + 1 + 1, 0, none⟩) (len + 2) (len + 2)) (len + 2) (rowCells (l ++ [((0 : UInt8), (0 : Int)), ((0 : UInt8), (0 : Int))]))) := HO4
  clear HO4
  go_wp2
  have hB5 : Below w.heap.size w ((w4.setCell ⟨w.heap.size + 1 + 1, len * 2 + 1, none⟩ (.int .i64 7)).setCell ⟨w.heap.size, 4, none⟩ (.slice (some ⟨w.heap.size + 1 + 1, 0, none⟩) len (len + 2))) :=
    (HL4.out.low.setCell (p := ⟨w.heap.size + 1 + 1, len * 2 + 1, none⟩) (show w.heap.size ≤ w.heap.size + 1 + 1 by omega) _).setCell (p := ⟨w.heap.size, 4, none⟩) (Nat.le_refl _) _
  have hO5 : (w4.setCell ⟨w.heap.size + 1 + 1, len * 2 + 1, none⟩ (.int .i64 7)).ownsRow w.heap.size 37 2 (.slice (some ⟨w.heap.size + 1 + 1, 0, none⟩) (len + 2) (len + 2)) (len + 2) (rowCells (lentL l)) := by
    have h := owned_set HOd.out (len * 2 + 1) (.int .i64 7)
    rw [rowCells_set _ len (0, 0) 7 (by rw [List.getElem?_append_right (by rw [HZ.out.length]; omega), HZ.out.length]; simp)] at h
    have e : (l ++ [((0 : UInt8), (0 : Int)), ((0 : UInt8), (0 : Int))]).set len (0, 7) = lentL l := by
      rw [← HZ.out.length, List.set_append_right _ _ (Nat.le_refl _), Nat.sub_self]; rfl
    rw [e] at h
    exact h
  have hO6 := owned_not hO5 (j := w.heap.size) (by show w.heap.size + 1 + 1 ≠ w.heap.size; omega) 4 (.slice (some ⟨w.heap.size + 1 + 1, 0, none⟩) len (len + 2))
  have hne : w.heap.size + 1 + 1 ≠ w.heap.size + 1 := by omega
  refine bodyPost_ret (v := .agg #[.string nm, .bool m, .string rf, .int .i64 p, .slice (some ⟨w.heap.size + 1 + 1, 0, none⟩) len (len + 2), .string b, .string q, .int .i64 sc]) ?_ rfl ⟨w.heap.size + 1 + 1, rfl, ?_, ?_⟩
  · simp only [results, hres]
    go_simp
  · exact owned_not (owned_not (owned_not (owned_not (owned_not (owned_not (owned_not (owned_not hO6 hne _ _) hne _ _) hne _ _) hne _ _) hne _ _) hne _ _) hne _ _) hne _ _
  · exact below8 hB5 (show w.heap.size ≤ w.heap.size + 1 by omega) _ _ _ _ _ _ _ _
theorem lent_rns {w : World} {B g len : Nat} {l : List Rn} (h : w.ownsRow B 37 2 (.slice (some ⟨g, 0, none⟩) (len + 2) (len + 2)) (len + 2) (rowCells (lentL l))) (hl : l.length = len) (hf : ∀ r ∈ l, fitI r.2) : RnsAt w (some ⟨g, 0, none⟩) len l := by
  have h1 := (owned_rns h (fun r hr => by
    simp [lentL] at hr
    rcases hr with hr | rfl | rfl
    · exact hf r hr
    · unfold fitI; decide
    · unfold fitI; decide)).take len (by omega)
  rwa [lentL, List.take_append_of_le_length (by omega), List.take_of_length_le (by omega)] at h1

set_option maxRecDepth 20000 in
set_option maxHeartbeats 4000000 in
theorem whole_calls (g : Nat) (v : RV) (B : Nat) (l : List Rn) (w : World) (ho : w.ownsRow B 37 2 (.slice (some ⟨g, 0, none⟩) (v.len + 2) (v.len + 2)) (v.len + 2) (rowCells (lentL l))) (hz : RecOk w v l) (hlen : v.len ≤ 2147483647) :
    Calls Tryz.prog 14 #[RV.val { v with ao := some ⟨g, 0, none⟩, cap := v.len + 2 }, v.val] w fun e w' => e = .returned (.bool true) ∧ Below w.heap.size w w' := by
  obtain ⟨nm, m, rf, p, ao, len, cap, b, q, sc⟩ := v
  have HSame : Hid (∀ W, Below w.heap.size w W → Calls Tryz.prog 17 #[.agg #[.string nm, .bool m, .string rf, .int .i64 p, .slice (some ⟨g, 0, none⟩) len (len + 2), .string b, .string q, .int .i64 sc], .agg #[.string nm, .bool m, .string rf, .int .i64 p, .slice ao len cap, .string b, .string q, .int .i64 sc]] W fun e w' => e = .returned (.bool true) ∧ Below W.heap.size W w') := by
    intro W hW
    have h1 := sameR_calls ⟨nm, m, rf, p, some ⟨g, 0, none⟩, len, len + 2, b, q, sc⟩ ⟨nm, m, rf, p, ao, len, cap, b, q, sc⟩ l l W (RecOk.below ⟨hz.name, hz.ref, hz.bases, hz.quals, hz.pos, hz.score, lent_rns ho hz.runs.length hz.runs.fits⟩ hW) (hz.below hW)
    have h2 : (RV.R ⟨nm, m, rf, p, some ⟨g, 0, none⟩, len, len + 2, b, q, sc⟩ l) = RV.R ⟨nm, m, rf, p, ao, len, cap, b, q, sc⟩ l := rfl
    rw [h2, sameB_self] at h1
    exact h1
  simp only at ho hlen
  have HO : Hid (w.ownsRow B 37 2 (.slice (some ⟨g, 0, none⟩) (len + 2) (len + 2)) (len + 2) (rowCells (lentL l))) := ho
  have HLn : Hid (l.length = len) := hz.runs.length
  clear ho hz
  simp only [RV.val]
  obtain ⟨q1, q2, q3⟩ := alloc2_heap w (.cells #[.string nm, .bool m, .string rf, .int .i64 p, .slice (some ⟨g, 0, none⟩) len (len + 2), .string b, .string q, .int .i64 sc] 24) (.cells #[.string nm, .bool m, .string rf, .int .i64 p, .slice ao len cap, .string b, .string q, .int .i64 sc] 24)
  have HQ : Hid (((w.alloc (.cells #[.string nm, .bool m, .string rf, .int .i64 p, .slice (some ⟨g, 0, none⟩) len (len + 2), .string b, .string q, .int .i64 sc] 24)).alloc (.cells #[.string nm, .bool m, .string rf, .int .i64 p, .slice ao len cap, .string b, .string q, .int .i64 sc] 24)).heap[w.heap.size]? = some (.cells #[.string nm, .bool m, .string rf, .int .i64 p, .slice (some ⟨g, 0, none⟩) len (len + 2), .string b, .string q, .int .i64 sc] 24 (0, 0)) ∧ ((w.alloc (.cells #[.string nm, .bool m, .string rf, .int .i64 p, .slice (some ⟨g, 0, none⟩) len (len + 2), .string b, .string q, .int .i64 sc] 24)).alloc (.cells #[.string nm, .bool m, .string rf, .int .i64 p, .slice ao len cap, .string b, .string q, .int .i64 sc] 24)).heap[w.heap.size + 1]? = some (.cells #[.string nm, .bool m, .string rf, .int .i64 p, .slice ao len cap, .string b, .string q, .int .i64 sc] 24 (0, 0)) ∧ Below w.heap.size w ((w.alloc (.cells #[.string nm, .bool m, .string rf, .int .i64 p, .slice (some ⟨g, 0, none⟩) len (len + 2), .string b, .string q, .int .i64 sc] 24)).alloc (.cells #[.string nm, .bool m, .string rf, .int .i64 p, .slice ao len cap, .string b, .string q, .int .i64 sc] 24))) := ⟨q1, q2, q3⟩
  clear q1 q2 q3
  go_enter Tryz.func14, Tryz.ntmps14
  go_wp2_with fail
  generalize hwx : (w.alloc (.cells #[.string nm, .bool m, .string rf, .int .i64 p, .slice (some ⟨g, 0, none⟩) len (len + 2), .string b, .string q, .int .i64 sc] 24)).alloc (.cells #[.string nm, .bool m, .string rf, .int .i64 p, .slice ao len cap, .string b, .string q, .int .i64 sc] 24) = wx at *
  clear hwx
  refine (HSame.out _ HQ.out.2.2).mono ?_
  rintro e w1 ⟨rfl, hb1⟩
  have HB1 : Hid (Below w.heap.size w w1) := HQ.out.2.2.trans (hb1.mono HQ.out.2.2.size)
  have hO := owned_below HO.out HB1.out
  have z4 := cellB (keepB HQ.out.1 hb1) (i := 4) rfl
  have y4 := cellB (keepB HQ.out.2.1 hb1) (i := 4) rfl
  obtain ⟨m1, m2⟩ := rowCells_get (lentL l) len (0, 7) (by rw [lentL, List.getElem?_append_right (by rw [HLn.out]; omega), HLn.out]; simp)
  obtain ⟨n1, n2⟩ := rowCells_get (lentL l) (len + 1) (0, 0) (by rw [lentL, List.getElem?_append_right (by rw [HLn.out]; omega), HLn.out, show len + 1 - len = 1 by omega]; rfl)
  have c1 := (owned_cells hO _ _ m1).1
  have c2 := (owned_cells hO _ _ m2).1
  have c3 := (owned_cells hO _ _ n1).1
  have c4 := (owned_cells hO _ _ n2).1
  have hgd := guard29
  have heq1 : ∀ W, (Op.equalIn 10000 37 (.agg #[.int .u8 0, .int .i64 7]) (.agg #[.int .u8 0, .int .i64 7])).run Tryz.prog W = .ok true W := fun W => by
    have := equal_rn (0, 7) (0, 7) W
    rw [decide_eq_true rfl] at this; exact this
  have heq2 : ∀ W, (Op.equalIn 10000 37 (.agg #[.int .u8 0, .int .i64 0]) (.agg #[.int .u8 0, .int .i64 0])).run Tryz.prog W = .ok true W := fun W => by
    have := equal_rn (0, 0) (0, 0) W
    rw [decide_eq_true rfl] at this; exact this
  clear hb1 hO m1 m2 n1 n2 HO HSame HQ
  go_wp2
  go_ret
  exact ⟨rfl, HB1.out⟩

theorem rns_none {H : Type} {enc : TypeId × Value → H} {W : World} {base : Nat} {spare : Nat → Bool} {held : Bool} {fuel : Nat} {ao : Option Addr} {len cap : Nat} {x : DataW H × List MemPlace} (h : DataW.trod enc Tryz.prog W base spare held fuel 22 (Value.slice ao len cap).cells.toList = some x) : ao = none → len = 0 ∧ cap = 0 := by
  intro hn
  subst hn
  rcases Deep.open_slice Tryz.underlying22 h with ⟨hc, _⟩ | ⟨a, l, c, m, n, D, Pl, hc, _⟩
  · simp [Value.cells] at hc; exact hc
  · simp [Value.cells] at hc
theorem byte_wf {n : Int} (h : (Lit.int .u8 n).wf = true) : ∃ c : UInt8, n = (c.toNat : Int) := by
  have h2 : 0 ≤ n ∧ n ≤ 255 := by simpa [Lit.wf, IntKind.min, IntKind.max, IntKind.signed, IntKind.bits] using h
  exact ⟨UInt8.ofNat n.toNat, by rw [UInt8.toNat_ofNat', Nat.mod_eq_of_lt (by omega)]; omega⟩
theorem int_wf {n : Int} (h : (Lit.int .i64 n).wf = true) : fitI n := by
  have h2 : -9223372036854775808 ≤ n ∧ n ≤ 9223372036854775807 := by simpa [Lit.wf, IntKind.min, IntKind.max, IntKind.signed, IntKind.bits] using h
  exact h2
set_option maxRecDepth 20000 in
theorem open_rns {H : Type} {enc : TypeId × Value → H} {W : World} {base : Nat} {spare : Nat → Bool} {held : Bool} {fuel : Nat} {cs : List Value} {x : DataW H × List MemPlace} (h : DataW.trod enc Tryz.prog W base spare held fuel 22 cs = some x) :
    ∃ ao len cap l, cs = [.slice ao len cap] ∧ len ≤ cap ∧ RnsAt W ao len l := by
  rcases Deep.open_slice Tryz.underlying22 h with ⟨rfl, _⟩ | ⟨a, len, cap, m, n, D, Pl, rfl, hb, hl, hm, hmm, _, hx⟩
  · exact ⟨none, 0, 0, [], rfl, Nat.le_refl _, RnsAt.nil _ _⟩
  · have ce : Tryz.prog.cellsOf 37 = 2 := by kernel_rfl
    have hlm : len ≤ m := by rw [hmm]; split <;> omega
    have each : ∀ i, i < len → ∃ q : Rn, W.cell? (a.add (i * 2)) = some (.int .u8 (q.1.toNat : Int)) ∧ W.cell? (a.add (i * 2 + 1)) = some (.int .i64 q.2) ∧ fitI q.2 := by
      intro i hi
      obtain ⟨cs', h1, h2⟩ := hx i (by omega)
      rw [ce] at h1
      obtain ⟨_, hlen, hcell⟩ := World.cells?_some h1
      obtain ⟨xs, k, hk, hxy, _, hxl, hf⟩ := DataW.trod_struct Tryz.underlying37 h2
      match cs', hlen with
      | [v0, v1], _ =>
        have g0 := hf 0 _ rfl
        have g1 := hf 1 _ rfl
        have c5 : Tryz.prog.cellsOf 5 = 1 := by kernel_rfl
        have c3 : Tryz.prog.cellsOf 3 = 1 := by kernel_rfl
        match xs, hxl with
        | [y0, y1], _ =>
          simp [c5, c3] at g0 g1
          obtain ⟨s0, e0, _, z0⟩ := DataW.trod_int Tryz.underlying5 g0
          obtain ⟨s1, e1, _, z1⟩ := DataW.trod_int Tryz.underlying3 g1
          simp at e0 e1
          subst e0; subst e1
          obtain ⟨c, rfl⟩ := byte_wf z0
          have k0 := hcell 0 (by omega)
          have k1 := hcell 1 (by omega)
          rw [Deep.add_add] at k0 k1
          exact ⟨(c, s1), by simpa using k0, by simpa using k1, int_wf z1⟩
    obtain ⟨q, hq⟩ := Deep.choose_lt each
    refine ⟨some a, len, cap, (List.range len).map q, rfl, hl, ⟨by simp, by omega, ?_, fun h0 => ?_⟩⟩
    · intro r hr
      obtain ⟨i, hi, rfl⟩ := List.mem_map.1 hr
      exact (hq i (by simpa using hi)).2.2
    · obtain ⟨b, off, spot⟩ := a
      have hspot : spot = none := by simpa [Addr.add] using World.cell?_spot (hq 0 h0).1
      subst hspot
      refine ⟨b, off, rfl, fun i p hi => ?_⟩
      have hil : i < len := by
        have := (List.getElem?_eq_some_iff.1 hi).1; simpa using this
      have hp : p = q i := by
        rw [List.getElem?_map, List.getElem?_range hil] at hi
        simpa using hi.symm
      subst hp
      obtain ⟨r0, r1, _⟩ := hq i hil
      rw [Go.WideShapes.add_plain] at r0 r1
      exact ⟨r0, by rw [Nat.add_assoc]; exact r1⟩

theorem info24 : (Tryz.prog.info? 24).map (fun i => (i.zero, i.size, i.bytes)) = some (some (.agg #[.string ⟨#[]⟩, .bool false, .string ⟨#[]⟩, .int .i64 0, .slice none 0 0, .string ⟨#[]⟩, .string ⟨#[]⟩, .int .i64 0]), 8, 112) := by kernel_rfl
/-- A record that is handed in. -/
structure RecIn (W : World) (v : RV) (l : List Rn) : Prop where
  ok : RecOk W v l
  room : v.len ≤ v.cap
  none : v.ao = none → v.len = 0 ∧ v.cap = 0
set_option maxRecDepth 20000 in
theorem open_rec {H : Type} {enc : TypeId × Value → H} {W : World} {base : Nat} {spare : Nat → Bool} {held : Bool} {fuel : Nat} {cs : List Value} {x : DataW H × List MemPlace} (hlen : cs.length = 8) (h : DataW.trod enc Tryz.prog W base spare held fuel 24 cs = some x) :
    ∃ v l, cs = [.string v.name, .bool v.mapped, .string v.ref, .int .i64 v.pos, .slice v.ao v.len v.cap, .string v.bases, .string v.quals, .int .i64 v.score] ∧ RecIn W v l := by
  obtain ⟨xs, k, hk, hxy, _, hxl, hf⟩ := DataW.trod_struct Tryz.underlying24 h
  match cs, hlen with
  | [v0, v1, v2, v3, v4, v5, v6, v7], _ =>
    have g0 := hf 0 _ rfl
    have g1 := hf 1 _ rfl
    have g2 := hf 2 _ rfl
    have g3 := hf 3 _ rfl
    have g4 := hf 4 _ rfl
    have g5 := hf 5 _ rfl
    have g6 := hf 6 _ rfl
    have g7 := hf 7 _ rfl
    have c9 : Tryz.prog.cellsOf 9 = 1 := by kernel_rfl
    have c3 : Tryz.prog.cellsOf 3 = 1 := by kernel_rfl
    have c4 : Tryz.prog.cellsOf 4 = 1 := by kernel_rfl
    have c22 : Tryz.prog.cellsOf 22 = 1 := by kernel_rfl
    match xs, hxl with
    | [y0, y1, y2, y3, y4, y5, y6, y7], _ =>
      simp [c9, c3, c4, c22] at g0 g1 g2 g3 g4 g5 g6 g7
      obtain ⟨s0, e0, _, z0⟩ := DataW.trod_string Tryz.underlying9 g0
      obtain ⟨s1, e1, _⟩ := DataW.trod_bool Tryz.underlying4 g1
      obtain ⟨s2, e2, _, z2⟩ := DataW.trod_string Tryz.underlying9 g2
      obtain ⟨s3, e3, _, z3⟩ := DataW.trod_int Tryz.underlying3 g3
      obtain ⟨ao, len, cap, l, e4, hl, hr⟩ := open_rns g4
      obtain ⟨s5, e5, _, z5⟩ := DataW.trod_string Tryz.underlying9 g5
      obtain ⟨s6, e6, _, z6⟩ := DataW.trod_string Tryz.underlying9 g6
      obtain ⟨s7, e7, _, z7⟩ := DataW.trod_int Tryz.underlying3 g7
      simp at e0 e1 e2 e3 e4 e5 e6 e7
      subst e0 e1 e2 e3 e4 e5 e6 e7
      exact ⟨⟨s0, s1, s2, s3, ao, len, cap, s5, s6, s7⟩, l, rfl, ⟨⟨z0, z2, z5, z6, int_wf z3, int_wf z7, hr⟩, hl, rns_none g4⟩⟩
/-- A list of records that is handed in. -/
structure RecsIn (W : World) (ao : Option Addr) (len cap : Nat) (xs : List Rl) : Prop where
  at_ : RecsAt W ao len xs
  room : len ≤ cap
  none : ao = none → len = 0 ∧ cap = 0
  each : ∀ x ∈ xs, RecIn W x.1 x.2
set_option maxRecDepth 20000 in
theorem recs_none {H : Type} {enc : TypeId × Value → H} {W : World} {base : Nat} {spare : Nat → Bool} {held : Bool} {fuel : Nat} {ao : Option Addr} {len cap : Nat} {x : DataW H × List MemPlace} (h : DataW.trod enc Tryz.prog W base spare held fuel 26 (Value.slice ao len cap).cells.toList = some x) : ao = none → len = 0 ∧ cap = 0 := by
  intro hn
  subst hn
  rcases Deep.open_slice Tryz.underlying26 h with ⟨hc, _⟩ | ⟨a, l, c, m, n, D, Pl, hc, _⟩
  · simp [Value.cells] at hc; exact hc
  · simp [Value.cells] at hc
set_option maxRecDepth 20000 in
set_option maxHeartbeats 1000000 in
theorem open_recs {H : Type} {enc : TypeId × Value → H} {W : World} {base : Nat} {spare : Nat → Bool} {held : Bool} {fuel : Nat} {ao : Option Addr} {len cap : Nat} {x : DataW H × List MemPlace} (h : DataW.trod enc Tryz.prog W base spare held fuel 26 (Value.slice ao len cap).cells.toList = some x) :
    ∃ xs, RecsIn W ao len cap xs := by
  have hn := recs_none h
  rcases Deep.open_slice Tryz.underlying26 h with ⟨hc, _⟩ | ⟨a, len', cap', m, n, D, Pl, hc, hb, hl, hm, hmm, _, hx⟩
  · simp [Value.cells] at hc
    obtain ⟨rfl, rfl, rfl⟩ := hc
    exact ⟨[], ⟨rfl, Nat.zero_le _, by simp, fun h => absurd h (by decide)⟩, Nat.le_refl _, hn, by simp⟩
  · simp [Value.cells] at hc
    obtain ⟨rfl, rfl, rfl⟩ := hc
    have ce : Tryz.prog.cellsOf 24 = 8 := by kernel_rfl
    have hlm : len ≤ m := by rw [hmm]; split <;> omega
    have each : ∀ i, i < len → ∃ q : Rl, RecIn W q.1 q.2 ∧ W.cell? (a.add (i * 8)) = some (.string q.1.name) ∧ W.cell? (a.add (i * 8 + 1)) = some (.bool q.1.mapped) ∧ W.cell? (a.add (i * 8 + 2)) = some (.string q.1.ref) ∧ W.cell? (a.add (i * 8 + 3)) = some (.int .i64 q.1.pos) ∧ W.cell? (a.add (i * 8 + 4)) = some (.slice q.1.ao q.1.len q.1.cap) ∧ W.cell? (a.add (i * 8 + 5)) = some (.string q.1.bases) ∧ W.cell? (a.add (i * 8 + 6)) = some (.string q.1.quals) ∧ W.cell? (a.add (i * 8 + 7)) = some (.int .i64 q.1.score) := by
      intro i hi
      obtain ⟨cs', h1, h2⟩ := hx i (by omega)
      rw [ce] at h1
      obtain ⟨_, hlen, hcell⟩ := World.cells?_some h1
      obtain ⟨v, l, rfl, hin⟩ := open_rec (by omega) h2
      have k0 := hcell 0 (by omega)
      have k1 := hcell 1 (by omega)
      have k2 := hcell 2 (by omega)
      have k3 := hcell 3 (by omega)
      have k4 := hcell 4 (by omega)
      have k5 := hcell 5 (by omega)
      have k6 := hcell 6 (by omega)
      have k7 := hcell 7 (by omega)
      rw [Deep.add_add] at k0 k1 k2 k3 k4 k5 k6 k7
      exact ⟨(v, l), hin, by simpa using k0, by simpa using k1, by simpa using k2, by simpa using k3, by simpa using k4, by simpa using k5, by simpa using k6, by simpa using k7⟩
    haveI : Inhabited Rl := ⟨(⟨ByteArray.empty, false, ByteArray.empty, 0, Option.none, 0, 0, ByteArray.empty, ByteArray.empty, 0⟩, [])⟩
    obtain ⟨q, hq⟩ := Deep.choose_lt each
    refine ⟨(List.range len).map q, ⟨by simp, by omega, ?_, fun h0 => ?_⟩, hl, hn, ?_⟩
    · intro r hr
      obtain ⟨i, hi, rfl⟩ := List.mem_map.1 hr
      exact (hq i (by simpa using hi)).1.ok
    · obtain ⟨b, off, spot⟩ := a
      have hspot : spot = none := by simpa [Addr.add] using World.cell?_spot (hq 0 h0).2.1
      subst hspot
      refine ⟨b, off, rfl, fun i p hi => ?_⟩
      have hil : i < len := by
        have := (List.getElem?_eq_some_iff.1 hi).1; simpa using this
      have hp : p = q i := by
        rw [List.getElem?_map, List.getElem?_range hil] at hi
        simpa using hi.symm
      subst hp
      obtain ⟨_, r0, r1, r2, r3, r4, r5, r6, r7⟩ := hq i hil
      rw [Go.WideShapes.add_plain] at r0 r1 r2 r3 r4 r5 r6 r7
      simp only [Nat.add_assoc] at *
      exact ⟨r0, r1, r2, r3, r4, r5, r6, r7⟩
    · intro r hr
      obtain ⟨i, hi, rfl⟩ := List.mem_map.1 hr
      exact (hq i (by simpa using hi)).1
/-- A list of sequences that is handed in. -/
structure SqsIn (W : World) (ao : Option Addr) (len cap : Nat) (qs : List Sq) : Prop where
  at_ : SqsAt W ao len qs
  room : len ≤ cap
  none : ao = none → len = 0 ∧ cap = 0
set_option maxRecDepth 20000 in
set_option maxHeartbeats 1000000 in
theorem open_seqs {H : Type} {enc : TypeId × Value → H} {W : World} {base : Nat} {spare : Nat → Bool} {held : Bool} {fuel : Nat} {ao : Option Addr} {len cap : Nat} {x : DataW H × List MemPlace} (h : DataW.trod enc Tryz.prog W base spare held fuel 39 (Value.slice ao len cap).cells.toList = some x) :
    ∃ qs, SqsIn W ao len cap qs := by
  have hn : ao = none → len = 0 ∧ cap = 0 := by
    intro hn
    subst hn
    rcases Deep.open_slice Tryz.underlying39 h with ⟨hc, _⟩ | ⟨a, l, c, m, n, D, Pl, hc, _⟩
    · simp [Value.cells] at hc; exact hc
    · simp [Value.cells] at hc
  rcases Deep.open_slice Tryz.underlying39 h with ⟨hc, _⟩ | ⟨a, len', cap', m, n, D, Pl, hc, hb, hl, hm, hmm, _, hx⟩
  · simp [Value.cells] at hc
    obtain ⟨rfl, rfl, rfl⟩ := hc
    exact ⟨[], ⟨rfl, Nat.zero_le _, by simp, fun h => absurd h (by decide)⟩, Nat.le_refl _, hn⟩
  · simp [Value.cells] at hc
    obtain ⟨rfl, rfl, rfl⟩ := hc
    have ce : Tryz.prog.cellsOf 42 = 3 := by kernel_rfl
    have hlm : len ≤ m := by rw [hmm]; split <;> omega
    have each : ∀ i, i < len → ∃ q : Sq, W.cell? (a.add (i * 3)) = some (.string q.1) ∧ W.cell? (a.add (i * 3 + 1)) = some (.string q.2.1) ∧ W.cell? (a.add (i * 3 + 2)) = some (.string q.2.2) ∧ q.short := by
      intro i hi
      obtain ⟨cs', h1, h2⟩ := hx i (by omega)
      rw [ce] at h1
      obtain ⟨_, hlen, hcell⟩ := World.cells?_some h1
      obtain ⟨xs, k, hk, hxy, _, hxl, hf⟩ := DataW.trod_struct Tryz.underlying42 h2
      match cs', hlen with
      | [v0, v1, v2], _ =>
        have g0 := hf 0 _ rfl
        have g1 := hf 1 _ rfl
        have g2 := hf 2 _ rfl
        have c9 : Tryz.prog.cellsOf 9 = 1 := by kernel_rfl
        match xs, hxl with
        | [y0, y1, y2], _ =>
          simp [c9] at g0 g1 g2
          obtain ⟨s0, e0, _, z0⟩ := DataW.trod_string Tryz.underlying9 g0
          obtain ⟨s1, e1, _, z1⟩ := DataW.trod_string Tryz.underlying9 g1
          obtain ⟨s2, e2, _, z2⟩ := DataW.trod_string Tryz.underlying9 g2
          simp at e0 e1 e2
          subst e0; subst e1; subst e2
          have k0 := hcell 0 (by omega)
          have k1 := hcell 1 (by omega)
          have k2 := hcell 2 (by omega)
          rw [Deep.add_add] at k0 k1 k2
          exact ⟨(s0, s1, s2), by simpa using k0, by simpa using k1, by simpa using k2, z0, z1, z2⟩
    obtain ⟨q, hq⟩ := Deep.choose_lt each
    refine ⟨(List.range len).map q, ⟨by simp, by omega, ?_, fun h0 => ?_⟩, hl, hn⟩
    · intro p hp
      obtain ⟨i, hi, rfl⟩ := List.mem_map.1 hp
      exact (hq i (List.mem_range.1 hi)).2.2.2
    · obtain ⟨b, off, spot⟩ := a
      have hspot : spot = none := by simpa [Addr.add] using World.cell?_spot (hq 0 h0).1
      subst hspot
      refine ⟨b, off, rfl, fun i p hi => ?_⟩
      have hil : i < len := by
        have := (List.getElem?_eq_some_iff.1 hi).1; simpa using this
      have hp : p = q i := by
        rw [List.getElem?_map, List.getElem?_range hil] at hi
        simpa using hi.symm
      subst hp
      obtain ⟨r0, r1, r2, _⟩ := hq i hil
      rw [Go.WideShapes.add_plain] at r0 r1 r2
      exact ⟨r0, by rw [Nat.add_assoc]; exact r1, by rw [Nat.add_assoc]; exact r2⟩
end Go.Proofs.YtdhphipdpjhhbaaGreatDoor
