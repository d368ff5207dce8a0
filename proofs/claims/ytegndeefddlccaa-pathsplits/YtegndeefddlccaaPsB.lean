/-
  A row of gaps, copied, with one gap more behind it.
-/
import Derived.Test.YtegndeefddlccaaPsQ
import Derived.Test.YtegndeefddlccaaPsA
import Derived.Deep.RegionLaw
namespace Go.Proofs.Ytegndeefddlccaa
open Go.RowKit

theorem step_append_opt {P : Program} {ops : Array Oper} {o : Oper} {a : Act} {w : World} {K : Act → World → Prop} {Q : Exit → Act → World → Prop} {E : Prop}
    (hg : o.guard = none) (s x : Operand) (t : TypeId) (hop : o.op = Op.call { callee := Callee.builtin Builtin.append, args := #[s, x], argTypes := #[t, t] })
    (base : Nat) (e : TypeId) (i : TypeInfo) (z : Value) (size bytes : Nat) (h1 : P.underlying t = some (.slice e)) (h2 : P.info? e = some i) (h3 : i.zero = some z) (h4 : i.size = size) (h5 : i.bytes = bytes) (h6 : z.cells.size = size) (h7 : 0 < size)
    (v : Value) (n : Nat) (xs : List Value) (hs : a.eval s = v) (hown : w.ownsRow base e size v n xs)
    (ao : Option Addr) (m c : Nat) (news : List Value) (hx : a.eval x = .slice ao m c) (hsrc : SrcAt w ao m size news)
    (b1 : n + m ≤ maxLen) (b2 : (n + m) * bytes ≤ 140737488355328) (hbase : base ≤ w.heap.size)
    (hK : ∀ v' w', w'.ownsRow base e size v' (n + m) (xs ++ news) → w.grownBy w' v.ownBlock → K (a.put o.dst v') w') :
    if Region.wanted o (yielded ops a.tmps) = true then Oper.wp P o a w K Q else E := by
  have hw : Region.wanted o (yielded ops a.tmps) = true := by simp [Region.wanted, hg]
  rw [if_pos hw]
  obtain ⟨hl, h1c, ⟨hao, hm⟩ | ⟨ad, hao, hc⟩⟩ := hsrc
  · subst hao hm
    have hn : news = [] := List.eq_nil_of_length_eq_zero (by rw [hl]; simp)
    subst hn
    have hrun := run_append_nothing' (P := P) (w := w) base t o.type e i size h1 h2 v n xs hown c
    unfold Oper.wp
    simp [execOp, hop, resolve, invoke, builtin, hs, hx, hrun, Result.andThen]
    exact hK v w (by rw [List.append_nil, Nat.add_zero]; exact hown) ⟨rfl, rfl, rfl, Nat.le_refl _, fun _ _ _ => rfl⟩
  · subst hao
    obtain ⟨v', w', hrun, r1, r2, _⟩ := run_append_own (P := P) w base t o.type e i z size bytes h1 h2 h3 h4 h5 h6 h7 v n xs hown ad m c news hl hc h1c b1 b2 hbase
    unfold Oper.wp
    simp [execOp, hop, resolve, invoke, builtin, hs, hx, hrun, Result.andThen]
    exact hK v' w' r1 r2
theorem shape_own {w : World} {base : Nat} {e : TypeId} {size : Nat} {v : Value} {n : Nat} {xs : List Value} (h : w.ownsRow base e size v n xs) : ∃ ao cap, v = .slice ao n cap := by
  rcases h.2 with ⟨hv, h0⟩ | ⟨g, cap, cur, hv, _⟩
  · subst h0; exact ⟨none, 0, hv⟩
  · exact ⟨_, cap, hv⟩
/-- Ahead of the first append. -/
structure R1 (w4 V : World) (g : Nat) (ao : Option Addr) (len : Nat) (gs : List (Int × Int)) : Prop where
  low : Below w4.heap.size w4 V
  own : V.ownsRow w4.heap.size 50 2 (.slice (some ⟨g, 0, none⟩) 0 0) 0 []
  src : SrcAt V ao len 2 (gapVals gs)
  big : w4.heap.size ≤ V.heap.size
  gb : w4.heap.size ≤ g
/-- Behind it. -/
structure R2 (w4 V w5 : World) (g : Nat) (v5 : Value) (len : Nat) (gs : List (Int × Int)) : Prop where
  low : Below w4.heap.size w4 w5
  own : w5.ownsRow w4.heap.size 50 2 v5 len (gapVals gs)
  big : w4.heap.size ≤ w5.heap.size
  keep : ∀ h, h ≠ g → h < V.heap.size → w5.heap[h]? = V.heap[h]?
theorem R1.next {w4 V : World} {g : Nat} {ao : Option Addr} {len : Nat} {gs : List (Int × Int)} (h : R1 w4 V g ao len gs) {v5 : Value} {w5 : World} (ho : w5.ownsRow w4.heap.size 50 2 v5 (0 + len) ([] ++ gapVals gs)) (hg : V.grownBy w5 (Value.slice (some ⟨g, 0, none⟩) 0 0).ownBlock) : R2 w4 V w5 g v5 len gs := by
  rw [Nat.zero_add, List.nil_append] at ho
  have hl := h.low.grown hg h.big (fun k hk => by simp [Value.ownBlock] at hk; rw [← hk]; exact h.gb)
  refine ⟨hl, ho, hl.size, fun k hk hlt => ?_⟩
  exact hg.block k hlt (by simp [Value.ownBlock]; exact hk)
/-- Ahead of the second one. -/
structure R3 (w4 V : World) (g : Nat) (v5 : Value) (len : Nat) (gs : List (Int × Int)) (a x : Int) : Prop where
  low : Below w4.heap.size w4 V
  own : V.ownsRow w4.heap.size 50 2 v5 len (gapVals gs)
  src : SrcAt V (some ⟨g, 0, none⟩) 1 2 [.int .i64 a, .int .i64 x]
  big : w4.heap.size ≤ V.heap.size
theorem src_one {V : World} {g : Nat} {a x : Int} (h : V.heap[g]? = some (.cells #[.int .i64 a, .int .i64 x] 50 (0, 0))) : SrcAt V (some ⟨g, 0, none⟩) 1 2 [.int .i64 a, .int .i64 x] := by
  refine ⟨rfl, fun u hu => ?_, .inr ⟨_, rfl, fun j u hu => ?_⟩⟩
  · simp at hu
    rcases hu with rfl | rfl <;> rfl
  · rw [Go.WideShapes.add_plain, Nat.zero_add]
    exact cell_block h j u (by simpa using hu)
theorem R3.next {w4 V : World} {g : Nat} {v5 : Value} {len : Nat} {gs : List (Int × Int)} {a x : Int} (h : R3 w4 V g v5 len gs a x) {v6 : Value} {w6 : World} (ho : w6.ownsRow w4.heap.size 50 2 v6 (len + 1) (gapVals gs ++ [.int .i64 a, .int .i64 x])) (hg : V.grownBy w6 v5.ownBlock) (hl : gs.length = len) (hm : len + 1 ≤ maxLen) :
    Below w4.heap.size w4 w6 ∧ ∃ ao6 cap6, v6 = .slice ao6 (len + 1) cap6 ∧ GpsAt w6 ao6 (len + 1) (gs ++ [(a, x)]) := by
  refine ⟨h.low.grown hg h.big (fun k hk => ?_), ?_⟩
  · rcases h.own.2 with ⟨hv, _⟩ | ⟨g', cap, cur, hv, hb, _⟩
    · rw [hv] at hk; cases hk
    · rw [hv] at hk; cases hk; exact hb
  · obtain ⟨ao6, cap6, rfl⟩ := shape_own ho
    refine ⟨ao6, cap6, rfl, gaps_own (by rw [show gapVals (gs ++ [(a, x)]) = gapVals gs ++ [.int .i64 a, .int .i64 x] by simp [gapVals]]; exact ho) (by simp [hl]) hm⟩
theorem r1_first {w4 : World} {ao : Option Addr} {len : Nat} {gs : List (Int × Int)} (h : GpsAt w4 ao len gs) : R1 w4 (w4.drew.alloc (.cells #[] 50)) w4.heap.size ao len gs := by
  have hb : Below w4.heap.size w4 (w4.drew.alloc (.cells #[] 50)) := (Below.refl _ w4).drew.alloc (Nat.le_refl _) _
  exact ⟨hb, empty_row w4.drew 50 2 _ (Nat.le_refl _) _ rfl, gaps_src (h.below hb), hb.size, Nat.le_refl _⟩
theorem r1_then {w4 : World} {ao : Option Addr} {len : Nat} {gs : List (Int × Int)} (h : GpsAt w4 ao len gs) (o : Obj) : R1 w4 ((w4.drew.alloc (.cells #[] 50)).alloc o) w4.heap.size ao len gs := by
  have hb : Below w4.heap.size w4 ((w4.drew.alloc (.cells #[] 50)).alloc o) := ((Below.refl _ w4).drew.alloc (Nat.le_refl _) _).alloc (by simp) _
  exact ⟨hb, (empty_row w4.drew 50 2 _ (Nat.le_refl _) _ rfl).alloc o, gaps_src (h.below hb), hb.size, Nat.le_refl _⟩
theorem r1_last {w4 : World} {ao : Option Addr} {len : Nat} {gs : List (Int × Int)} (h : GpsAt w4 ao len gs) (o : Obj) : R1 w4 ((w4.drew.alloc o).alloc (.cells #[] 50)) (w4.heap.size + 1) ao len gs := by
  have hb : Below w4.heap.size w4 ((w4.drew.alloc o).alloc (.cells #[] 50)) := ((Below.refl _ w4).drew.alloc (Nat.le_refl _) _).alloc (by simp) _
  exact ⟨hb, empty_row (w4.drew.alloc o) 50 2 _ (by simp) _ (by simp), gaps_src (h.below hb), hb.size, by omega⟩
theorem R2.fresh {w4 V w5 : World} {g : Nat} {v5 : Value} {len : Nat} {gs : List (Int × Int)} (h : R2 w4 V w5 g v5 len gs) (a x : Int) : R3 w4 (w5.alloc (.cells #[.int .i64 a, .int .i64 x] 50)) w5.heap.size v5 len gs a x :=
  ⟨h.low.alloc h.big _, h.own.alloc _, src_one (heap_alloc_new w5 _), (h.low.alloc h.big _).size⟩
theorem R2.held {w4 V w5 : World} {g : Nat} {v5 : Value} {len : Nat} {gs : List (Int × Int)} (h : R2 w4 V w5 g v5 len gs) {a x : Int} {f : Nat} (hf : f ≠ g) (hV : V.heap[f]? = some (.cells #[.int .i64 a, .int .i64 x] 50 (0, 0))) : R3 w4 w5 f v5 len gs a x :=
  ⟨h.low, h.own, src_one (by rw [h.keep f hf (Array.getElem?_eq_some_iff.1 hV).1]; exact hV), h.big⟩

end Go.Proofs.Ytegndeefddlccaa
